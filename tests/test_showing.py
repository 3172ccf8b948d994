"""[49], [50], [52]: what EVENTS SHOW, and how FAR it can be from the SOURCE TIME."""

import inspect
import random
import unittest
from fractions import Fraction

from ledclocks import showing
from ledclocks.keptpairs import first_void, kept_pairs
from ledclocks.ringfinding import world_or_ring
from ledclocks.showing import SLEW, far_off, shown_times
from ledclocks.shownchecker import lets_shown
from ledclocks.worlds import source_times
from tests.things import number_of, pair_of, random_field, told_of, true_history, wild_history, world_of

FIELD = ((("ann", (1, 1), (1, 1)), ("bo", (1, 2), (3, 2)), ("cy", (2, 3), (2, 1))),
         (("ann", "bo", (1, 1), (3, 1)), ("ann", "bo", (2, 1), None), ("bo", "ann", (1, 2), (5, 2))), "ann")
MARK = ("mark",)
SLEWS = ((0, 1), (1, 2), (1, 3), (98, 99), (1, 99), (999999, 1000000))


def oracle(history, slew):
    """What EVENTS SHOW by [49], Fractions."""
    slew = number_of(slew)
    shown = []
    for number, (name, stamp, deed) in enumerate(history[1]):
        low, high = [number_of(end) for end in kept_pairs(history)[number]]
        aim = None if low is None or high is None or low > high else (low + high) / 2
        ahead = [k for k in range(number) if history[1][k][0] == name]
        if not ahead:
            shown.append(number_of(stamp) if aim is None else aim)
            continue
        gone = number_of(stamp) - number_of(history[1][ahead[-1]][1])
        elder = shown[ahead[-1]]
        if aim is None:
            shown.append(elder + gone)
        else:
            shown.append(max(elder + (1 - slew) * gone, min(elder + (1 + slew) * gone, aim)))
    return shown


def oracle_far(history, shown):
    rows = []
    for pair, each in zip(kept_pairs(history), shown):
        low, high = [number_of(end) for end in pair]
        rows.append(None if low is None or high is None else max(number_of(each) - low, high - number_of(each)))
    return tuple([told_of(far) for far in rows])


def some_histories(seed, many=25):
    rng = random.Random(seed)
    rows = [wild_history(rng, random_field(rng, houses=3, links=6), 20) for trial in range(many)]
    rows += [wild_history(rng, plain=True) for trial in range(many)]
    return rows + [true_history(rng, random_field(rng, houses=3, links=6), 20)[0] for trial in range(many)]


def history_of(*events):
    return (FIELD, events)


class TestShown(unittest.TestCase):
    def told(self, history, shown, **named):
        told = shown_times(history, **named)
        self.assertEqual((told, type(told)), (shown, tuple))
        self.assertEqual([type(each) for each in told], [tuple] * len(told))

    def test_the_source_shows_its_stamps(self):
        history = history_of(("ann", (-3, 2), MARK), ("ann", (-3, 2), MARK), ("ann", (7, 1), ("send", 0)))
        for slew in SLEWS:
            self.told(history, ((-3, 2), (-3, 2), (7, 1)), slew=slew)

    def test_without_a_kept_end_as_the_own_clock_goes(self):
        history = history_of(("cy", (5, 1), MARK), ("cy", (5, 1), MARK), ("cy", (19, 2), MARK))
        for slew in SLEWS:
            self.told(history, ((5, 1), (5, 1), (19, 2)), slew=slew)

    def test_with_one_kept_end_alone(self):
        history = history_of(("ann", (5, 1), ("send", 1)), ("bo", (70, 1), ("hear", 0)), ("bo", (72, 1), MARK))
        self.assertEqual(kept_pairs(history)[1], ((7, 1), None))
        self.told(history, ((5, 1), (70, 1), (72, 1)))

    def test_the_first_one_shows_its_aim(self):
        history = history_of(("ann", (5, 1), ("send", 0)), ("bo", (70, 1), ("hear", 0)))
        for slew in SLEWS:
            self.told(history, ((5, 1), (7, 1)), slew=slew)

    def test_no_further_than_slew_lets(self):
        # bo shows 0, 4; then its pair is (101, 103), and (3 times 2/3, 6) wider behind.
        early = (("bo", (0, 1), MARK), ("bo", (4, 1), MARK), ("ann", (100, 1), ("send", 0)))
        history = history_of(*early, ("bo", (8, 1), ("hear", 2)), ("bo", (11, 1), MARK))
        self.told(history, ((0, 1), (4, 1), (100, 1), (10, 1), (29, 2)))
        self.told(history, ((0, 1), (4, 1), (100, 1), (10, 1), (29, 2)), slew=(1, 2))
        self.told(history, ((0, 1), (4, 1), (100, 1), (8, 1), (11, 1)), slew=(0, 1))
        self.told(history, ((0, 1), (4, 1), (100, 1), (9, 1), (51, 4)), slew=(1, 4))
        late = (("bo", (0, 1), MARK), ("bo", (4, 1), MARK), ("ann", (-100, 1), ("send", 0)))
        history = history_of(*late, ("bo", (8, 1), ("hear", 2)), ("bo", (11, 1), MARK))
        self.told(history, ((0, 1), (4, 1), (-100, 1), (6, 1), (15, 2)))
        self.told(history, ((0, 1), (4, 1), (-100, 1), (7, 1), (37, 4)), slew=(1, 4))
        self.told(history, ((0, 1), (4, 1), (-100, 1), (8, 1), (11, 1)), slew=(0, 1))

    def test_the_aim_where_slew_lets(self):
        history = history_of(("bo", (0, 1), MARK), ("ann", (7, 1), ("send", 0)), ("bo", (10, 1), ("hear", 1)))
        self.told(history, ((0, 1), (7, 1), (9, 1)))
        self.told(history, ((0, 1), (7, 1), (9, 1)), slew=(1, 10))
        self.told(history, ((0, 1), (7, 1), (19, 2)), slew=(1, 20))

    def test_of_a_void_pair_as_the_own_clock_goes(self):
        history = history_of(("ann", (0, 1), ("send", 0)), ("bo", (0, 1), ("hear", 0)), ("ann", (9, 1), ("send", 0)),
                             ("bo", (1, 1), ("hear", 2)), ("bo", (3, 1), MARK))
        self.assertEqual(first_void(history), 3)
        self.told(history, ((0, 1), (2, 1), (9, 1), (3, 1), (5, 1)))
        self.assertEqual(far_off(history, shown_times(history))[3], (2, 1))

    def test_no_events(self):
        self.told(history_of(), ())
        self.assertEqual(far_off(history_of(), ()), ())

    def test_by_the_oracle(self):
        voids = turned = 0
        for history in some_histories(49):
            for slew in SLEWS:
                self.told(history, world_of(oracle(history, slew)), slew=slew)
            self.told(history, world_of(oracle(history, (1, 2))))
            voids += first_void(history) is not None
            turned += shown_times(history) != shown_times(history, slew=(0, 1))
        self.assertGreater(min(voids, turned), 7)

    def test_slew_left_out(self):
        self.assertEqual((SLEW, showing.SLEW, type(SLEW)), ((1, 2), (1, 2), tuple))
        self.assertEqual(inspect.signature(shown_times).parameters["slew"].default, (1, 2))
        with self.assertRaises(TypeError):
            shown_times(history_of(), (1, 2))
        self.assertEqual(shown_times(slew=(0, 1), history=history_of()), ())
        self.assertEqual(far_off(shown=(), history=history_of()), ())


class TestFar(unittest.TestCase):
    def test_by_hand(self):
        history = history_of(("ann", (5, 1), ("send", 0)), ("bo", (70, 1), ("hear", 0)), ("cy", (0, 1), MARK))
        for shown, far in ((((5, 1), (7, 1), (0, 1)), ((0, 1), (1, 1), None)),
                           (((4, 1), (6, 1), (0, 1)), ((1, 1), (2, 1), None)),
                           (((6, 1), (8, 1), (9, 1)), ((1, 1), (2, 1), None)),
                           (((5, 1), (0, 1), (0, 1)), ((0, 1), (8, 1), None)),
                           (((5, 1), (20, 1), (0, 1)), ((0, 1), (14, 1), None))):
            told = far_off(history, shown)
            self.assertEqual((told, type(told)), (far, tuple))

    def test_one_end_alone(self):
        history = history_of(("ann", (5, 1), ("send", 1)), ("bo", (70, 1), ("hear", 0)))
        self.assertEqual(far_off(history, ((5, 1), (7, 1))), ((0, 1), None))

    def test_below_nought(self):
        history = history_of(("ann", (0, 1), ("send", 0)), ("bo", (0, 1), ("hear", 0)), ("ann", (9, 1), ("send", 0)),
                             ("bo", (0, 1), ("hear", 2)))
        self.assertEqual(kept_pairs(history)[3], ((10, 1), (3, 1)))
        self.assertEqual(far_off(history, ((0, 1), (2, 1), (9, 1), (6, 1)))[3], (-3, 1))
        self.assertEqual(far_off(history, ((0, 1), (2, 1), (9, 1), (13, 2)))[3], (-7, 2))
        self.assertEqual(world_or_ring(history)[0], "ring")

    def test_by_the_oracle(self):
        rng = random.Random(50)
        below = 0
        for history in some_histories(50):
            for shown in (shown_times(history), self.drawn(rng, history)):
                told = far_off(history, shown)
                self.assertEqual(told, oracle_far(history, shown))
                below += len([far for far in told if far is not None and far[0] < 0])
        self.assertGreater(below, 5)

    def drawn(self, rng, history):
        return tuple([pair_of(Fraction(rng.randint(-99, 99), rng.randint(1, 9))) for event in history[1]])

    def test_in_worlds_that_fit_it_is_no_further(self):
        rng = random.Random(52)
        seen = 0
        for trial in range(50):
            history, truth = true_history(rng, random_field(rng, houses=3, links=6), 20)
            at_events = source_times(history, world_of(truth))
            for shown in (shown_times(history), shown_times(history, slew=(1, 9)), self.drawn(rng, history)):
                for far, each, moment in zip(far_off(history, shown), shown, at_events):
                    if far is not None:
                        self.assertLessEqual(abs(number_of(each) - number_of(moment)), number_of(far))
                        seen += 1
        self.assertGreater(seen, 300)


class TestWhatFollows(unittest.TestCase):
    def test_it_never_goes_back_and_is_let_by(self):
        for history in some_histories(51):
            for slew in SLEWS:
                shown = shown_times(history, slew=slew)
                self.assertIs(lets_shown(history, shown, slew=slew), True)
                last = {}
                for event, each in zip(history[1], shown):
                    self.assertTrue(event[0] not in last or last[event[0]] <= number_of(each))
                    last[event[0]] = number_of(each)

    def test_the_source_shows_its_stamps(self):
        for history in some_histories(52):
            for slew in SLEWS:
                for event, each in zip(history[1], shown_times(history, slew=slew)):
                    self.assertTrue(event[0] != history[0][2] or each == event[1])

    def test_by_slew_nought_a_clock_is_turned_at_its_first_event_alone(self):
        for history in some_histories(53):
            turned = {}
            for event, each in zip(history[1], shown_times(history, slew=(0, 1))):
                by = number_of(each) - number_of(event[1])
                self.assertEqual(turned.setdefault(event[0], by), by)


if __name__ == "__main__":
    unittest.main()
