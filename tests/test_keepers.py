"""[42], [43], [44]: a KEEPER."""

import random
import unittest

from ledclocks.errors import ClockError, LackError, NoEvent, NoHouse, NoLink, NoNumber
from ledclocks.keepers import Keeper
from ledclocks.keptpairs import kept_pairs
from tests.things import number_of, odd_things, pair_of, true_history, wild_history

ANN = ("ann", (1, 1), (1, 1))
BO = ("bo", (1, 2), (3, 2))
CY = ("cy", (2, 3), (2, 1))
FIELD = ((ANN, BO, CY), (("ann", "bo", (1, 1), (3, 1)), ("ann", "bo", (2, 1), None), ("bo", "cy", (1, 2), (5, 2))),
         "ann")
MARK = ("mark",)
EVENTS = (("ann", (5, 1), ("send", 0)), ("bo", (2, 1), ("hear", 0)), ("bo", (7, 2), ("send", 2)), ("ann", (9, 1), MARK))


def keeper_of(history):
    keeper = Keeper(history[0])
    for event in history[1]:
        keeper.note(*event)
    return keeper


class TestNotes(unittest.TestCase):
    def test_numbers_one_by_one(self):
        keeper = Keeper(FIELD)
        for number, event in enumerate(EVENTS):
            self.assertEqual(len(keeper), number)
            told = keeper.note(*event)
            self.assertEqual((told, type(told)), (number, int))
        self.assertEqual(keeper.history(), (FIELD, EVENTS))

    def test_by_name(self):
        keeper = Keeper(field=FIELD)
        self.assertEqual(keeper.note(deed=("send", 0), stamp=(5, 1), house="ann"), 0)
        self.assertEqual(keeper.pair(number=0), ((5, 1), (5, 1)))
        self.assertEqual(keeper.now(stamp=(7, 1), house="ann"), ((7, 1), (7, 1)))

    def test_alike_stamps_may_stand(self):
        keeper = Keeper(FIELD)
        self.assertEqual(keeper.note("bo", (1, 2), MARK), 0)
        self.assertEqual(keeper.note("bo", (1, 2), MARK), 1)
        self.assertEqual(keeper.note("cy", (-9, 1), MARK), 2)

    def test_letters_twice_and_in_any_order(self):
        keeper = Keeper(FIELD)
        keeper.note("ann", (0, 1), ("send", 0))
        keeper.note("ann", (0, 1), ("send", 1))
        for number, heard in enumerate((1, 0, 1, 0), 2):
            self.assertEqual(keeper.note("bo", (0, 1), ("hear", heard)), number)

    def test_history_is_of_plain_kinds(self):
        told = keeper_of((FIELD, EVENTS)).history()
        self.assertEqual([type(told), type(told[0]), type(told[1])], [tuple, tuple, tuple])
        self.assertEqual([type(event) for event in told[1]], [tuple] * 4)
        self.assertEqual(Keeper(FIELD).history(), (FIELD, ()))

    def test_any_history_is_kept_as_it_is(self):
        rng = random.Random(42)
        for trial in range(60):
            history = wild_history(rng)
            self.assertEqual(keeper_of(history).history(), history)

    def test_two_keepers_keep_their_own(self):
        one, other = Keeper(FIELD), Keeper(FIELD)
        one.note("ann", (1, 1), MARK)
        self.assertEqual((len(one), len(other)), (1, 0))
        self.assertEqual(other.now("ann", (0, 1)), ((0, 1), (0, 1)))


class TestRefusals(unittest.TestCase):
    def setUp(self):
        self.keeper = keeper_of((FIELD, EVENTS))

    def refused(self, refusal, base, fields, call, *given):
        """The call is refused so, and changes nothing."""
        twin = keeper_of((FIELD, EVENTS))
        with self.assertRaises(base) as caught:
            call(*given)
        self.assertIs(type(caught.exception), refusal)
        for name in fields:
            told = getattr(caught.exception, name)
            self.assertEqual((told, type(told)), (fields[name], type(fields[name])))
        self.assertEqual(self.keeper, twin)
        self.assertEqual(self.keeper.history(), (FIELD, EVENTS))
        self.assertEqual(len(self.keeper), 4)
        self.assertEqual(str(self.keeper), "ann:2 bo:2 cy:0")
        self.assertEqual([self.keeper.pair(k) for k in range(4)], list(kept_pairs((FIELD, EVENTS))))
        self.assertEqual(self.keeper.now("bo", (5, 1)), twin.now("bo", (5, 1)))
        self.assertEqual(self.keeper.note("cy", (0, 1), MARK), 4)
        self.keeper = twin

    def note_refused(self, refusal, base, fields, *given):
        self.refused(refusal, base, fields, self.keeper.note, *given)

    def test_no_house(self):
        for name in ("dee", "a", "annx", "zzzzzzzz"):
            self.note_refused(NoHouse, LackError, {"name": name}, name, (9, 1), MARK)
        name = "".join(["d", "e", "e"])
        with self.assertRaises(NoHouse) as caught:
            self.keeper.note(name, (9, 1), MARK)
        self.assertIs(caught.exception.name, name)

    def test_stamps_that_fall(self):
        self.note_refused(NoEvent, ClockError, {"word": "falls", "at": 3}, "ann", (8, 1), MARK)
        self.note_refused(NoEvent, ClockError, {"word": "falls", "at": 3}, "ann", (899, 100), MARK)
        self.note_refused(NoEvent, ClockError, {"word": "falls", "at": 2}, "bo", (10, 3), MARK)
        self.note_refused(NoEvent, ClockError, {"word": "falls", "at": 2}, "bo", (-7, 2), MARK)

    def test_sends(self):
        for link in (3, 4, -1, -3, 10 ** 50):
            self.note_refused(NoLink, LackError, {"number": link}, "ann", (9, 1), ("send", link))
        self.note_refused(NoEvent, ClockError, {"word": "from", "at": 2}, "ann", (9, 1), ("send", 2))
        self.note_refused(NoEvent, ClockError, {"word": "from", "at": 0}, "bo", (9, 1), ("send", 0))
        self.note_refused(NoEvent, ClockError, {"word": "from", "at": 1}, "cy", (9, 1), ("send", 1))

    def test_hears(self):
        for number in (4, 5, -1, -4, 10 ** 50, -(10 ** 50)):
            self.note_refused(NoNumber, LackError, {"number": number}, "bo", (9, 1), ("hear", number))
        self.note_refused(NoEvent, ClockError, {"word": "send", "at": 1}, "bo", (9, 1), ("hear", 1))
        self.note_refused(NoEvent, ClockError, {"word": "send", "at": 3}, "bo", (9, 1), ("hear", 3))
        self.note_refused(NoEvent, ClockError, {"word": "to", "at": 2}, "bo", (9, 1), ("hear", 2))
        self.note_refused(NoEvent, ClockError, {"word": "to", "at": 0}, "cy", (9, 1), ("hear", 0))
        self.note_refused(NoEvent, ClockError, {"word": "to", "at": 0}, "ann", (9, 1), ("hear", 0))

    def test_the_one_told_first_goes(self):
        for deed in (("send", 9), ("send", 0), ("hear", 9), ("hear", 1), ("hear", 2)):
            self.note_refused(NoHouse, LackError, {"name": "dee"}, "dee", (-9, 1), deed)
        for deed in (("send", 9), ("send", 0), ("hear", 9), ("hear", 1), ("hear", 2)):
            self.note_refused(NoEvent, ClockError, {"word": "falls", "at": 2}, "bo", (-9, 1), deed)
        self.note_refused(NoEvent, ClockError, {"word": "send", "at": 3}, "cy", (0, 1), ("hear", 3))

    def test_now_is_refused_as_a_mark(self):
        self.refused(NoHouse, LackError, {"name": "dee"}, self.keeper.now, "dee", (9, 1))
        self.refused(NoEvent, ClockError, {"word": "falls", "at": 3}, self.keeper.now, "ann", (8, 1))
        self.refused(NoEvent, ClockError, {"word": "falls", "at": 2}, self.keeper.now, "bo", (3, 1))

    def test_pair_of_no_event(self):
        for number in (4, 5, -1, -2, -4, 10 ** 50):
            self.refused(NoNumber, LackError, {"number": number}, self.keeper.pair, number)
        with self.assertRaises(NoNumber):
            Keeper(FIELD).pair(0)

    def test_a_letter_cant_be_heard_ahead_of_its_send(self):
        keeper = Keeper(FIELD)
        with self.assertRaises(NoNumber) as caught:
            keeper.note("bo", (0, 1), ("hear", 0))
        self.assertEqual(caught.exception.number, 0)
        self.assertEqual(len(keeper), 0)


class TestPairs(unittest.TestCase):
    def test_as_kept_pairs_and_never_another_later(self):
        rng = random.Random(43)
        for trial in range(60):
            history = wild_history(rng) if trial % 2 else true_history(rng)[0]
            keeper = Keeper(history[0])
            told = kept_pairs(history)
            for number, event in enumerate(history[1]):
                keeper.note(*event)
                self.assertEqual([keeper.pair(k) for k in range(number + 1)], list(told[:number + 1]))

    def test_now_is_what_a_mark_would_have(self):
        rng = random.Random(44)
        for trial in range(60):
            field, events = wild_history(rng)
            keeper = keeper_of((field, events))
            for name, slow, fast in field[0]:
                stamps = [number_of(event[1]) for event in events if event[0] == name] or [rng.randint(-9, 9)]
                stamp = pair_of(stamps[-1] + rng.choice((0, 1, number_of((7, 3)))))
                told = keeper.now(name, stamp)
                self.assertEqual(keeper.history(), (field, events))
                self.assertEqual(told, kept_pairs((field, events + ((name, stamp, MARK),)))[-1])
                self.assertIs(type(told), tuple)

    def test_now_grows_by_drift_alone(self):
        keeper = keeper_of((FIELD, EVENTS))
        for gone in range(10):
            low, high = keeper.now("bo", pair_of(number_of((7, 2)) + gone))
            self.assertEqual(number_of(low), 7 + (gone * number_of((2, 3))))
            self.assertEqual(number_of(high), 11 + gone * 2)

    def test_now_of_the_source_and_of_nothing_ahead(self):
        keeper = Keeper(FIELD)
        self.assertEqual(keeper.now("ann", (-7, 3)), ((-7, 3), (-7, 3)))
        self.assertEqual(keeper.now("bo", (4, 1)), (None, None))
        self.assertEqual(len(keeper), 0)


class TestLooks(unittest.TestCase):
    def test_len(self):
        self.assertEqual(len(Keeper(FIELD)), 0)
        self.assertEqual(len(keeper_of((FIELD, EVENTS))), 4)

    def test_str(self):
        self.assertEqual(str(Keeper(FIELD)), "ann:0 bo:0 cy:0")
        keeper = keeper_of((FIELD, EVENTS))
        self.assertEqual(str(keeper), "ann:2 bo:2 cy:0")
        keeper.note("bo", (9, 1), MARK)
        self.assertEqual(str(keeper), "ann:2 bo:3 cy:0")
        self.assertEqual(str(Keeper(((ANN,), (), "ann"))), "ann:0")
        twelve = Keeper(((ANN,), (), "ann"))
        for number in range(12):
            twelve.note("ann", (number, 1), MARK)
        self.assertEqual(str(twelve), "ann:12")

    def same(self, one, other, truth):
        self.assertIs(one == other, truth)
        self.assertIs(other == one, truth)
        self.assertIs(one != other, not truth)
        self.assertIs(other != one, not truth)

    def test_equal_where_histories_are(self):
        one, other = Keeper(FIELD), Keeper(FIELD)
        self.same(one, one, True)
        self.same(one, other, True)
        for event in EVENTS:
            one.note(*event)
            self.same(one, other, False)
            other.note(*event)
            self.same(one, other, True)
        one.note("cy", (0, 1), MARK)
        other.note("cy", (1, 1), MARK)
        self.same(one, other, False)

    def test_unlike_fields(self):
        for field in (((ANN, BO), FIELD[1][:2], "ann"), (FIELD[0], FIELD[1][:2], "ann"),
                      ((ANN, ("bo", (1, 1), (1, 1)), CY), FIELD[1], "ann"),
                      ((ANN, ("bo", (1, 1), (1, 1)), CY), FIELD[1], "bo")):
            self.same(Keeper(FIELD), Keeper(field), False)
        self.same(Keeper(((ANN, ("bo", (1, 1), (1, 1))), (), "ann")),
                  Keeper(((ANN, ("bo", (1, 1), (1, 1))), (), "bo")), False)

    def test_unlike_order(self):
        one = keeper_of((FIELD, (("ann", (0, 1), MARK), ("bo", (0, 1), MARK))))
        other = keeper_of((FIELD, (("bo", (0, 1), MARK), ("ann", (0, 1), MARK))))
        self.same(one, other, False)

    def test_unlike_deeds(self):
        self.same(keeper_of((FIELD, (("ann", (0, 1), ("send", 0)),))),
                  keeper_of((FIELD, (("ann", (0, 1), ("send", 1)),))), False)

    def test_asking_changes_nothing(self):
        one, other = keeper_of((FIELD, EVENTS)), keeper_of((FIELD, EVENTS))
        one.now("cy", (99, 1))
        one.pair(1)
        one.history()
        self.same(one, other, True)
        self.assertEqual(one.note("cy", (0, 1), MARK), 4)

    def test_no_other_thing_is_equal_to_one(self):
        keeper = keeper_of((FIELD, EVENTS))
        for thing in odd_things() + [keeper.history(), FIELD, EVENTS, str(keeper), len(keeper), list(EVENTS)]:
            self.same(keeper, thing, False)
        for thing in odd_things() + [(FIELD, ()), FIELD]:
            self.same(Keeper(FIELD), thing, False)

    def test_methods_stand_in_the_class_itself(self):
        for name in ("note", "history", "pair", "now", "__len__", "__str__", "__eq__"):
            self.assertIn(name, vars(Keeper))


if __name__ == "__main__":
    unittest.main()
