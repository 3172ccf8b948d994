"""The STEPS of a HISTORY: how much later one EVENT can be than another one, at most."""

from ledclocks.moves import history_moves
from ledclocks.ratios import NOUGHT, common_unit, less


def history_steps(history):
    """The STEPS (x, y, w) of a HISTORY, a tuple."""
    steps = []
    for y, moves in enumerate(history_moves(history)):
        for x, bounds in moves:
            least, most = bounds
            if most is not None:
                steps.append((x, y, most))
            steps.append((y, x, less(NOUGHT, least)))
    return tuple(steps)


def whole_steps(steps):
    """A unit and the STEPS with each w times it, a whole NUMBER: such are quickly added."""
    unit = common_unit([w for x, y, w in steps])
    return (unit, [(x, y, w[0] * (unit // w[1])) for x, y, w in steps])
