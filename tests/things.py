"""Odd things, and makers of FIELDS and HISTORIES, for the tests alone.

The makers take a random.Random with a seed of the test's own, so that each run is the same.
"""

from fractions import Fraction

from ledclocks.errors import ClockError, LackError

ODD_THINGS = (
    None, True, False, 0, 1, -1, 2, 10 ** 59, -(10 ** 59), "", " ", "a", "ann", "Ann", "abcdefgh", "abcdefghi", "1",
    [], (), [1], (1,), [1, 2], (None,), (True,), (1, 2, 3), ((),), [[]], ([],), ((), ()), ([], []), ((), (), ()),
    ("mark",), ["mark"], (("ann", 0, 0),), ("ann", 0, 0), ((("ann", 0, 0),), ()), ("ann", (1, 1), (1, 1)),
    ("ann", "bo", (0, 1), None), (None, None), (None, None, None), ("", "", ""), (0, 0, 0), (0, 0, "ann"),
)


def nested(depth):
    """A tuple in a list in a tuple, and so on."""
    thing = ()
    for level in range(depth):
        thing = [thing] if level % 2 else (thing,)
    return thing


def odd_things():
    return list(ODD_THINGS) + [nested(30), "x" * 4000, list(range(4999)), tuple(range(4999))]


def bent(thing):
    """All things that are the thing with one thing at any place and depth in it bent."""
    if isinstance(thing, tuple):
        yield list(thing)
        yield thing + (0,)
        yield thing + ((),)
        yield thing[:-1] if thing else (None, None)
        for k in range(len(thing)):
            for other in bent(thing[k]):
                yield thing[:k] + (other,) + thing[k + 1:]
    elif isinstance(thing, bool):
        yield int(thing)
        yield None
    elif isinstance(thing, int):
        yield bool(thing) if thing in (0, 1) else True
        yield str(thing)
        yield None
        yield [thing]
        yield (thing,)
    elif isinstance(thing, str):
        yield thing.upper()
        yield thing + "x" * 9
        yield ""
        yield [thing]
        yield (thing,)
        yield 0
        yield True
    else:
        yield 0
        yield False
        yield ""
        yield []


def pair_of(fraction):
    return (fraction.numerator, fraction.denominator)


def number_of(pair):
    return None if pair is None else Fraction(pair[0], pair[1])


def random_field(rng, houses=None, links=None, plain=False):
    """A FIELD; plain keeps the figures small, so that ends often meet."""
    many = rng.randint(1, 6) if houses is None else houses
    names = sorted(rng.sample(["a", "ann", "bo", "cy", "dee", "eve", "zzzzzzzz"], many))
    source = rng.choice(names)
    top = 4 if plain else 99
    rows = []
    for name in names:
        slow = Fraction(rng.randint(1, top), top)
        fast = 1 + Fraction(rng.randint(0, top), rng.randint(1, top))
        if name == source or rng.random() < 0.1:
            slow = fast = Fraction(1)
        rows.append((name, pair_of(slow), pair_of(fast)))
    letters = []
    for number in range((rng.randint(0, 8) if links is None else links) if many > 1 else 0):
        one, other = rng.sample(names, 2)
        least = Fraction(rng.randint(0, top), rng.randint(1, top))
        most = None if rng.random() < 0.2 else pair_of(least + Fraction(rng.randint(0, top), rng.randint(1, top)))
        letters.append((one, other, pair_of(least), most))
    return (tuple(rows), tuple(letters), source)


def random_deed(rng, field, events, name):
    """A deed that may stand next at this house."""
    sends = [k for k, link in enumerate(field[1]) if link[0] == name]
    hears = [k for k, event in enumerate(events) if event[2][0] == "send" and field[1][event[2][1]][1] == name]
    choice = rng.random()
    if hears and choice < 0.5:
        return ("hear", rng.choice(hears))
    if sends and choice < 0.9:
        return ("send", rng.choice(sends))
    return ("mark",)


def wild_history(rng, field=None, many=None, plain=False):
    """A HISTORY whose stamps come of nothing, so that often no WORLD FITS."""
    field = random_field(rng, plain=plain) if field is None else field
    stamps = {}
    events = []
    for number in range(rng.randint(0, 30) if many is None else many):
        name = rng.choice(field[0])[0]
        if name in stamps:
            stamps[name] += Fraction(rng.randint(0, 9), 1 if plain else rng.randint(1, 9))
        else:
            stamps[name] = Fraction(rng.randint(-20, 20), 1 if plain else rng.randint(1, 9))
        events.append((name, pair_of(stamps[name]), random_deed(rng, field, events, name)))
    return (field, tuple(events))


def true_history(rng, field=None, many=None):
    """A HISTORY that comes of true times, and these, a list of Fractions."""
    field = random_field(rng) if field is None else field
    drifts = {name: (number_of(slow), number_of(fast)) for name, slow, fast in field[0]}
    clocks = {name: (Fraction(0), Fraction(rng.randint(-50, 50))) for name in drifts}
    letters = []
    events = []
    truth = []
    moment = Fraction(0)

    def put(name, deed):
        then, stamp = clocks[name]
        slow, fast = drifts[name]
        stamp += (moment - then) * (slow + (fast - slow) * Fraction(rng.randint(0, 4), 4))
        clocks[name] = (moment, stamp)
        events.append((name, pair_of(stamp), deed))
        truth.append(moment)

    for number in range(rng.randint(0, 30) if many is None else many):
        moment += Fraction(rng.randint(0, 6), rng.randint(1, 3))
        due = sorted([letter for letter in letters if letter[0] <= moment])
        if due:
            moment = max(due[0][0], truth[-1])
            if moment > due[0][2]:
                letters.remove(due[0])
                continue
            letters.remove(due[0])
            put(field[1][events[due[0][1]][2][1]][1], ("hear", due[0][1]))
            continue
        name = rng.choice(field[0])[0]
        sends = [k for k, link in enumerate(field[1]) if link[0] == name]
        if not sends or rng.random() < 0.2:
            put(name, ("mark",))
            continue
        link = rng.choice(sends)
        least, most = number_of(field[1][link][2]), number_of(field[1][link][3])
        put(name, ("send", link))
        latest = moment + least + 20 if most is None else moment + most
        for letter in range(rng.choice((0, 1, 1, 2))):
            while_gone = (latest - moment - least) * Fraction(rng.randint(0, 4), 4)
            letters.append((moment + least + while_gone, len(events) - 1, latest))
    return (field, tuple(events)), truth


def source_stamps(history):
    """The pair (stamp, number) of some EVENT of the SOURCE, None where there is none."""
    field, events = history
    for number, event in enumerate(events):
        if event[0] == field[2]:
            return (number_of(event[1]), number)
    return None


def oracle_steps(history):
    """The STEPS by [4], with Fractions."""
    (houses, links, source), events = history
    drifts = {name: (number_of(slow), number_of(fast)) for name, slow, fast in houses}
    steps = []
    for y, (name, stamp, deed) in enumerate(events):
        ahead = [x for x in range(y) if events[x][0] == name]
        if ahead:
            slow, fast = drifts[name]
            gone = number_of(stamp) - number_of(events[ahead[-1]][1])
            steps.append((ahead[-1], y, pair_of(gone / slow)))
            steps.append((y, ahead[-1], pair_of(-gone / fast)))
        if deed[0] == "hear":
            link = links[events[deed[1]][2][1]]
            if link[3] is not None:
                steps.append((deed[1], y, link[3]))
            steps.append((y, deed[1], pair_of(-number_of(link[2]))))
    return tuple(steps)


def oracle_reach(history):
    """REACH of all pairs by [5], with Fractions, a list of lists; None where some RING is below 0."""
    many = len(history[1])
    table = [[Fraction(0) if x == y else None for y in range(many)] for x in range(many)]
    for x, y, w in oracle_steps(history):
        table[x][y] = number_of(w) if table[x][y] is None else min(table[x][y], number_of(w))
    for mid in range(many):
        for x in range(many):
            for y in range(many):
                if table[x][mid] is not None and table[mid][y] is not None:
                    far = table[x][mid] + table[mid][y]
                    table[x][y] = far if table[x][y] is None else min(table[x][y], far)
    return None if [x for x in range(many) if table[x][x] < 0] else table


def told_of(fraction):
    """A Fraction as the FRACTION it is, None left as it is."""
    return None if fraction is None else pair_of(fraction)


def way_sum(history, x, y, way):
    """The SUM of a WAY from x to y by [5], a Fraction; fails where it is none."""
    steps = oracle_steps(history)
    assert type(way) is tuple, way
    at = x
    total = Fraction(0)
    for number in way:
        assert type(number) is int and 0 <= number < len(steps) and steps[number][0] == at, way
        at = steps[number][1]
        total += number_of(steps[number][2])
    assert at == y, way
    return total


def bars(history, ring):
    """Whether a thing is a RING of a SUM below 0."""
    if type(ring) is not tuple or not ring:
        return False
    start = oracle_steps(history)[ring[0]][0]
    return way_sum(history, start, start, ring) < 0


def oracle_bars(history, world):
    """The number of the first STEP that bars a WORLD by [4], with Fractions; None where it FITS."""
    for number, (x, y, w) in enumerate(oracle_steps(history)):
        if number_of(world[y]) > number_of(world[x]) + number_of(w):
            return number
    return None


def world_of(truth):
    """True times, a list of Fractions, as a WORLD."""
    return tuple([pair_of(moment) for moment in truth])


def oracle_heard(history, number):
    """What an EVENT HAS HEARD by [6], a sorted list."""
    events = history[1]
    found = {number}
    while True:
        more = set(found)
        for k in found:
            more.update([x for x in range(k) if events[x][0] == events[k][0]][-1:])
            more.update(events[k][2][1:] if events[k][2][0] == "hear" else [])
        if more == found:
            return sorted(found)
        found = more


def refusal_of(call, *given, **named):
    """The class and the fields of the refusal of a call, a tuple; None where it isn't refused."""
    try:
        call(*given, **named)
    except (ClockError, LackError) as refused:
        return (type(refused),) + tuple(vars(refused).values())
    return None


def bent_twice(rng, thing, many):
    """Things that are bent at two places, so many of them drawn."""
    once = list(bent(thing))
    for trial in range(many):
        twice = list(bent(rng.choice(once)))
        yield rng.choice(twice)
