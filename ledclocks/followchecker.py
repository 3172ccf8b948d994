"""A checker of RINGS of FOLLOWS."""

from ledclocks.errors import NoPaper


def lets_follow_ring(pairs, thing):
    """How many are in a RING of FOLLOWS."""
    if not isinstance(thing, tuple) or len(thing) == 0 or not all([isinstance(name, str) for name in thing]):
        raise NoPaper("shape", -1)
    for k, name in enumerate(thing):
        if name in thing[:k]:
            raise NoPaper("twice", k)
    for k, name in enumerate(thing):
        if (name, thing[(k + 1) % len(thing)]) not in pairs:
            raise NoPaper("follows", k)
    return len(thing)
