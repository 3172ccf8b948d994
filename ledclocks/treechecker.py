"""A checker of TREE PAPERS: it looks at each row and each wire, and seeks nothing."""

from ledclocks.errors import NoPaper
from ledclocks.net_trees import near_names, own_keys
from ledclocks.numbers import is_count, is_number


def lets_tree(net, up, wires, thing):
    """How many lead, in a thing that may stand as the TREE PAPER by up and wires."""
    if not isinstance(thing, tuple) or not all([is_tree_row(row) for row in thing]):
        raise NoPaper("shape", -1)
    if [row[0] for row in thing] != list(up):
        raise NoPaper("many", -1)
    keys = own_keys(net)
    near = near_names(net, up, wires)
    told = {name: (key, steps) for name, key, steps, who in thing}
    for k, row in enumerate(thing):
        word = row_lacks(row, keys[row[0]], near[row[0]], told)
        if word is not None:
            raise NoPaper(word, k)
    for k, row in enumerate(thing):
        bar_far(thing, k, near[row[0]])
    return len([row for row in thing if row[2] == 0])


def is_tree_row(thing):
    """Whether thing is of the kind of (name, key, steps, who)."""
    if not isinstance(thing, tuple) or len(thing) != 4:
        return False
    name, key, steps, who = thing
    return isinstance(name, str) and is_key_shape(key) and is_count(steps) and isinstance(who, str)


def is_key_shape(thing):
    """Whether thing is a triple of two NUMBERS and a text."""
    if not isinstance(thing, tuple) or len(thing) != 3:
        return False
    return is_number(thing[0]) and is_number(thing[1]) and isinstance(thing[2], str)


def row_lacks(row, own, ends, told):
    """The word that bars a row by what is told of its neighbours, None where none does."""
    name, key, steps, who = row
    if key > own:
        return "key"
    if steps == 0:
        return None if key == own and who == name else "lead"
    return None if who in ends and told[who] == (key, steps - 1) else "who"


def bar_far(thing, k, ends):
    """Refuses the first row behind row k that is next to it by a wire, and not by what is told."""
    for n in range(k + 1, len(thing)):
        if thing[n][0] in ends and (thing[n][1] != thing[k][1] or abs(thing[n][2] - thing[k][2]) > 1):
            raise NoPaper("near", (k, n))
