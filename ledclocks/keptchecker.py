"""A checker of KEPT PAPERS: it goes along the CHAINS that a paper names, and seeks nothing."""

from ledclocks.errors import NoPaper
from ledclocks.moves import history_moves
from ledclocks.numbers import are_numbers
from ledclocks.ratios import added


def lets_kept(history, event, thing):
    """The pair of what both CHAINS of a KEPT PAPER of an EVENT ADD UP to, None for None."""
    if not isinstance(thing, tuple) or len(thing) != 2 or not all([is_chain_shape(chain) for chain in thing]):
        raise NoPaper("shape", -1)
    rows = history_moves(history)
    low = chain_end(history, rows, event, thing[0], 0)
    high = chain_end(history, rows, event, thing[1], 1)
    return (low, high)


def is_chain_shape(thing):
    """Whether thing is None or a tuple of one NUMBER or more."""
    return thing is None or are_numbers(thing) and len(thing) > 0


def chain_end(history, rows, event, chain, side):
    """What one CHAIN to the EVENT ADDS UP to, None of None."""
    if chain is None:
        return None
    bar_numbers(history, chain, side)
    bar_source(history, chain, side)
    bounds = bounds_along(rows, chain, side)
    bar_endless(bounds, side)
    if chain[-1] != event:
        raise NoPaper("last", side)
    end = history[1][chain[0]][1]
    for each in bounds:
        end = added(end, each[side])
    return end


def bar_numbers(history, chain, side):
    """Refuses what is no EVENT's number."""
    for k, number in enumerate(chain):
        if not 0 <= number < len(history[1]):
            raise NoPaper("event", (side, k))


def bar_source(history, chain, side):
    """Refuses a first EVENT that isn't of the SOURCE, and another one that is."""
    field, events = history
    for k, number in enumerate(chain):
        if (events[number][0] == field[2]) != (k == 0):
            raise NoPaper("source", (side, k))


def bounds_along(rows, chain, side):
    """The bounds of each move along the CHAIN, a list; refuses what is no move."""
    found = []
    for k in range(1, len(chain)):
        moves = [bounds for x, bounds in rows[chain[k]] if x == chain[k - 1]]
        if len(moves) == 0:
            raise NoPaper("goes", (side, k))
        found.append(moves[0])
    return found


def bar_endless(bounds, side):
    """Refuses a move that has no end at this side: a LINK without most."""
    for k, each in enumerate(bounds):
        if each[side] is None:
            raise NoPaper("endless", (side, k + 1))
