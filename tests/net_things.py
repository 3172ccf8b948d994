"""Makers of NETS and STATES, and what a ROUND does, told anew by [8], for the tests alone."""

NAMES = ("a", "ann", "bo", "cy", "dee", "eve", "fay", "gil")


def random_net(rng, many=None):
    names = sorted(rng.sample(NAMES, rng.randint(0, 8) if many is None else many))
    members = tuple([(name, rng.randint(0, 2), rng.randint(0, 2)) for name in names])
    pairs = [(one, other) for one in names for other in names if one < other]
    wires = sorted(rng.sample(pairs, rng.randint(0, min(12, len(pairs)))))
    return (members, tuple(wires))


def random_wires(rng, net):
    """Some, none or all wires of a NET, or None."""
    choice = rng.random()
    if choice < 0.2:
        return None
    return tuple([wire for wire in net[1] if rng.random() < choice])


def key_of(member):
    return (member[1], member[2], member[0])


def random_key(rng, net):
    """The KEY of a member, or one of nobody."""
    if net[0] and rng.random() < 0.6:
        return key_of(rng.choice(net[0]))
    return (rng.randint(0, 3), rng.randint(0, 3), rng.choice(("ghost", "a", "zed")))


def random_state(rng, net):
    """A STATE of a NET, whatever is said in it."""
    rows = []
    names = [member[0] for member in net[0]]
    for name in names:
        if rng.random() < 0.2:
            rows.append((name, None, ()))
            continue
        ends = sorted([end for wire in net[1] if name in wire for end in wire if end != name])
        heard = [(end, random_key(rng, net), rng.randint(0, 11), rng.randint(0, 5)) for end in ends
                 if rng.random() < 0.6]
        rows.append((name, (random_key(rng, net), rng.randint(0, 11), rng.choice(names)), tuple(heard)))
    return tuple(rows)


def oracle_round(net, state, wires, most, age):
    """The STATE behind a ROUND, letter by letter, as [8] has it."""
    wires = net[1] if wires is None else wires
    best = {row[0]: row[1] for row in state}
    heard = {row[0]: {who: (key, steps, old) for who, key, steps, old in row[2]} for row in state}
    fresh = {name: {} for name in best}
    for one, other in wires:
        for speaker, listener in ((one, other), (other, one)):
            if best[speaker] is not None and best[listener] is not None:
                fresh[listener][speaker] = (best[speaker][0], best[speaker][1], 0)
    rows = []
    for member in net[0]:
        name = member[0]
        if best[name] is None:
            rows.append((name, None, ()))
            continue
        now = dict(fresh[name])
        for who, (key, steps, old) in heard[name].items():
            if who not in now and not old + 1 > age:
                now[who] = (key, steps, old + 1)
        choices = [(key_of(member), 0, name)]
        choices += [(key, steps + 1, who) for who, (key, steps, old) in now.items() if steps + 1 <= most]
        rows.append((name, sorted(choices)[0], tuple([(who,) + now[who] for who in sorted(now)])))
    return tuple(rows)


def random_up(rng, net):
    """Some, none or all members of a NET, and some, none or all of its wires."""
    share = rng.choice((0, 0.3, 0.6, 0.8, 0.9, 1, 1))
    up = tuple([member[0] for member in net[0] if rng.random() < share])
    share = rng.choice((0, 0.4, 0.7, 0.9, 1, 1))
    return (up, tuple([wire for wire in net[1] if rng.random() < share]))


def oracle_steps_apart(up, wires):
    """The fewest wires between each two of up, a dict; by all ways of going on, a step more each time."""
    apart = {(name, name): 0 for name in up}
    live = [wire for wire in wires if wire[0] in up and wire[1] in up]
    for steps in range(1, len(up) + 1):
        for (one, other), before in list(apart.items()):
            for wire in live:
                for here, there in (wire, wire[::-1]):
                    if other == here and before == steps - 1 and (one, there) not in apart:
                        apart[(one, there)] = steps
    return apart


def oracle_pieces(up, wires):
    """PIECES by [59]."""
    apart = oracle_steps_apart(up, wires)
    return tuple(sorted(set([tuple(sorted([other for one, other in apart if one == name])) for name in up])))


def oracle_tree(net, up, wires):
    """The TREE PAPER by [60]."""
    apart = oracle_steps_apart(up, wires)
    keys = {member[0]: key_of(member) for member in net[0]}
    rows = []
    for name in up:
        key = sorted([keys[other] for one, other in apart if one == name])[0]
        steps = apart[(name, key[2])]
        near = [end for wire in wires if name in wire for end in wire if end != name and end in up]
        who = name if steps == 0 else sorted([end for end in near if apart[(end, key[2])] == steps - 1])[0]
        rows.append((name, key, steps, who))
    return tuple(rows)


def only_tuples(thing):
    """Whether there is no list in it, and no kind of tuple of another name."""
    if isinstance(thing, (list, tuple)):
        return type(thing) is tuple and all([only_tuples(part) for part in thing])
    return True
