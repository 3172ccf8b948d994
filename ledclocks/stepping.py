"""The STEPS of a HISTORY: how much later one EVENT can be than another one, at most."""

from ledclocks.moves import history_moves
from ledclocks.ratios import NOUGHT, less


def history_steps(history):
    """The STEPS (x, y, w) of a HISTORY, a tuple."""
    steps = []
    for y, moves in enumerate(history_moves(history)):
        for x, bounds in moves:
            least, most = bounds
            if most is not None:
                steps.append((x, y, most))
            steps.append((y, x, less(NOUGHT, least)))
    return tuple(steps)
