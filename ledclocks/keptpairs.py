"""KEPT pairs: what each house keeps of the SOURCE TIME in passing, and papers of them."""

from ledclocks.moves import history_moves
from ledclocks.ratios import added_told, greatest_of, is_below, least_of


def kept_pairs(history):
    """The KEPT pairs of a HISTORY, a tuple."""
    field, events = history
    pairs = []
    for event, moves in zip(events, history_moves(history)):
        pairs.append(kept_pair(field, event, moves, pairs))
    return tuple(pairs)


def kept_pair(field, event, moves, pairs):
    """The KEPT pair of one EVENT, by the moves into it and the pairs of the EVENTS ahead."""
    name, stamp, deed = event
    if name == field[2]:
        return (stamp, stamp)
    return (greatest_of(ends_told(moves, pairs, 0)), least_of(ends_told(moves, pairs, 1)))


def ends_told(moves, pairs, side):
    """What the moves tell of one end, without those that tell nothing."""
    ends = [moved_end(move, pairs, side) for move in moves]
    return [end for end in ends if end is not None]


def moved_end(move, pairs, side):
    """One end of the pair where the move begins, carried along it, or None."""
    x, bounds = move
    return added_told(pairs[x][side], bounds[side])


def first_void(history):
    """The number of the first EVENT whose KEPT pair is VOID, None where none is."""
    for number, pair in enumerate(kept_pairs(history)):
        if is_void(pair):
            return number
    return None


def is_void(pair):
    """Whether a pair is VOID: both ends are told, and low is above high."""
    low, high = pair
    return low is not None and high is not None and is_below(high, low)


def kept_paper(history, event):
    """A pair of CHAINS that ADD UP to the KEPT pair of the EVENT, None for None."""
    pairs = kept_pairs(history)
    rows = history_moves(history)
    return (chain_to(history, event, pairs, rows, 0), chain_to(history, event, pairs, rows, 1))


def chain_to(history, event, pairs, rows, side):
    """A CHAIN that ADDS UP to one end of a KEPT pair, None where that is None."""
    if pairs[event][side] is None:
        return None
    field, events = history
    back = [event]
    while events[back[-1]][0] != field[2]:
        back.append(giver_of(back[-1], pairs, rows, side))
    return tuple(back[::-1])


def giver_of(event, pairs, rows, side):
    """The EVENT from which one end of the KEPT pair, not None, came."""
    givers = [move[0] for move in rows[event] if moved_end(move, pairs, side) == pairs[event][side]]
    return givers[0]
