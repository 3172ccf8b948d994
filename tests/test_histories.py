"""[3], [10], [12]: HISTORIES by kind, and next EVENTS."""

import random
import unittest

from ledclocks.errors import NoEvent
from ledclocks.histories import event_lacks, is_history, put_on
from ledclocks.houses import is_field
from tests.things import bent, bent_twice, number_of, odd_things, pair_of, refusal_of, true_history, wild_history

FIELD = ((("ann", (1, 1), (1, 1)), ("bo", (1, 2), (3, 2)), ("cy", (1, 1), (1, 1))),
         (("ann", "bo", (1, 1), (3, 1)), ("ann", "bo", (1, 1), (3, 1)), ("bo", "cy", (1, 2), None)), "ann")
MARK = ("mark",)
EVENTS = (("ann", (0, 1), ("send", 0)), ("bo", (5, 2), ("hear", 0)), ("bo", (5, 2), ("send", 2)),
          ("cy", (-3, 1), ("hear", 2)), ("ann", (1, 1), MARK), ("bo", (3, 1), ("hear", 0)))
HISTORY = (FIELD, EVENTS)


def plain_fraction(thing):
    if type(thing) is not tuple or [type(part) for part in thing] != [int, int] or thing[1] < 1:
        return False
    return pair_of(number_of(thing)) == thing


def plain_word(thing):
    return type(thing) is str and 0 < len(thing) < 9 and thing.isascii() and thing.isalpha() and thing.islower()


def oracle_lacks(history, thing):
    """The word that bars by [12], all of them looked at, the first one told."""
    (houses, links, source), events = history
    if type(thing) is not tuple or len(thing) != 3 or not plain_word(thing[0]) or not plain_fraction(thing[1]):
        return "shape"
    name, stamp, deed = thing
    if type(deed) is not tuple or repr(deed) != "('mark',)" and (
            len(deed) != 2 or repr(deed[0]) not in ("'send'", "'hear'") or type(deed[1]) is not int):
        return "shape"
    words = []
    if name not in [house[0] for house in houses]:
        words.append("house")
    stamps = [event[1] for event in events if event[0] == name]
    if stamps and number_of(stamps[-1]) > number_of(stamp):
        words.append("stamp")
    if deed[0] == "send" and [k for k, link in enumerate(links) if link[0] == name].count(deed[1]) == 0:
        words.append("link")
    sends = [k for k, event in enumerate(events) if event[2][0] == "send" and links[event[2][1]][1] == name]
    if deed[0] == "hear" and deed[1] not in sends:
        words.append("send")
    return (words + [None])[0]


def oracle_history(thing):
    if type(thing) is not tuple or len(thing) != 2 or not is_field(thing[0]) or type(thing[1]) is not tuple:
        return False
    return all(oracle_lacks((thing[0], thing[1][:k]), event) is None for k, event in enumerate(thing[1]))


class TestIsHistory(unittest.TestCase):
    def test_histories(self):
        rng = random.Random(10)
        self.assertIs(is_history(HISTORY), True)
        self.assertIs(is_history((FIELD, ())), True)
        for trial in range(60):
            self.assertIs(is_history(wild_history(rng)), True)
            self.assertIs(is_history(true_history(rng)[0]), True)

    def test_beyond_all_bounds(self):
        many = tuple([("ann", (number, 1), MARK) for number in range(400)])
        self.assertIs(is_history((FIELD, many)), True)
        self.assertIs(is_history((FIELD, (("ann", (10 ** 59, 7), MARK),))), True)

    def test_bent_at_any_place_and_depth(self):
        for thing in bent(HISTORY):
            self.assertIs(is_history(thing), oracle_history(thing), thing)
        self.assertGreater(len([thing for thing in bent(HISTORY) if not is_history(thing)]), 300)

    def test_bent_twice(self):
        rng = random.Random(11)
        for thing in bent_twice(rng, HISTORY, 3000):
            self.assertIs(is_history(thing), oracle_history(thing), thing)

    def test_odd_things(self):
        for thing in odd_things():
            self.assertIs(is_history(thing), False)
            self.assertIs(is_history((FIELD, thing)), thing == () and type(thing) is tuple)
            self.assertIs(is_history((thing, ())), False)
            self.assertIs(is_history((FIELD, (thing,))), False)

    def test_events_that_cant_stand(self):
        for events in ((("ann", (0, 1), ("send", True)),), (("ann", (0, 1), ("send", False)),),
                       EVENTS[:1] + (("bo", (0, 1), ("hear", False)),), (("ann", (0, 2), MARK),),
                       (("ann", (True, 1), MARK),), (("ann", (1, 1), ["mark"]),), (("ann", [1, 1], MARK),),
                       (["ann", (1, 1), MARK],), [("ann", (1, 1), MARK)], (("dee", (1, 1), MARK),),
                       (("ann", (1, 1), MARK), ("ann", (0, 1), MARK)), (("ann", (0, 1), ("send", 2)),),
                       (("ann", (0, 1), ("send", 3)),), (("ann", (0, 1), ("send", -1)),),
                       (("bo", (0, 1), ("hear", 0)),), (("bo", (0, 1), ("hear", 1)), EVENTS[0]),
                       EVENTS[:1] + (("cy", (0, 1), ("hear", 0)),), EVENTS[:1] + (("bo", (0, 1), ("hear", -1)),)):
            self.assertIs(is_history((FIELD, events)), False, events)

    def test_by_name(self):
        self.assertIs(is_history(thing=HISTORY), True)


class TestEventLacks(unittest.TestCase):
    def lacks(self, word, thing, history=HISTORY):
        self.assertEqual(repr(event_lacks(history, thing)), repr(word), thing)
        if word is None:
            told = put_on(history, thing)
            self.assertEqual(repr(told), repr((history[0], history[1] + (thing,))))
            self.assertIs(is_history(told), True)
            return
        many = len(history[1])
        self.assertEqual(repr(refusal_of(put_on, history, thing)), repr((NoEvent, word, many)))

    def test_nothing_bars(self):
        for thing in (("ann", (1, 1), MARK), ("ann", (3, 2), ("send", 1)), ("bo", (3, 1), ("hear", 0)),
                      ("bo", (99, 1), ("send", 2)), ("cy", (-3, 1), ("hear", 2)), ("cy", (9, 1), MARK)):
            self.lacks(None, thing)

    def test_shape(self):
        for thing in odd_things() + list(bent(("ann", (1, 1), MARK)))[:8]:
            self.lacks("shape", thing)
        for thing in (("ann", (2, 2), MARK), ("ann", (1, 0), MARK), ("Ann", (1, 1), MARK), ("", (1, 1), MARK),
                      ("ann", 1, MARK), ("ann", (1, 1), "mark"), ("ann", (1, 1), ("mark", 0)), ("ann", (1, 1), ()),
                      ("ann", (1, 1), ("send",)), ("ann", (1, 1), ("send", "0")), ("ann", (1, 1), ("send", 0, 0)),
                      ("ann", (1, 1), ("hear", None)), ("ann", (1, 1), ("send", True)), ("ann", (True, 1), MARK),
                      ("ann", (1, 1), ("Mark",)), ("ann", (1, 1), (0,)), ("ann", (1, 1), ([], 0)),
                      ("ann", (1, 1), MARK, MARK), ("abcdefghi", (1, 1), MARK)):
            self.lacks("shape", thing)

    def test_each_word_alone(self):
        for name in ("dee", "a", "annx"):
            self.lacks("house", (name, (1, 1), MARK))
        for stamp in ((0, 1), (99, 100), (-1, 1)):
            self.lacks("stamp", ("ann", stamp, MARK))
        for number in (2, 3, -1, -2, 10 ** 50):
            self.lacks("link", ("ann", (1, 1), ("send", number)))
        self.lacks("link", ("bo", (3, 1), ("send", 0)))
        for number in (1, 2, 4, 6, 7, -1, -6, 10 ** 50):
            self.lacks("send", ("bo", (3, 1), ("hear", number)))
        self.lacks("send", ("ann", (1, 1), ("hear", 0)))

    def test_of_several_the_first_one(self):
        self.lacks("shape", ("dee", (-1, 1), ("send", "9")))
        self.lacks("house", ("dee", (-1, 1), ("send", 9)))
        self.lacks("house", ("dee", (-1, 1), ("hear", 9)))
        self.lacks("stamp", ("ann", (-1, 1), ("send", 9)))
        self.lacks("stamp", ("bo", (-1, 1), ("hear", 9)))

    def test_of_no_events(self):
        empty = (FIELD, ())
        self.lacks(None, ("bo", (-99, 1), MARK), empty)
        self.lacks(None, ("bo", (0, 1), ("send", 2)), empty)
        for number in (0, -1, 1):
            self.lacks("send", ("bo", (0, 1), ("hear", number)), empty)
        self.lacks("house", ("dee", (0, 1), MARK), empty)

    def test_by_the_oracle(self):
        rng = random.Random(12)
        words = []
        for trial in range(60):
            history = wild_history(rng, many=rng.randint(0, 12))
            names = [house[0] for house in history[0][0]] + ["zed"]
            for turn in range(40):
                deed = rng.choice((MARK, ("send", rng.randint(-1, 8)), ("hear", rng.randint(-1, 12))))
                thing = (rng.choice(names), (rng.randint(-20, 99), 1), deed)
                words.append(oracle_lacks(history, thing))
                self.lacks(words[-1], thing, history)
            thing = rng.choice(history[1] or (("zed", (0, 1), MARK),))
            for odd in bent_twice(rng, thing, 20):
                self.lacks(oracle_lacks(history, odd), odd, history)
        for word in (None, "house", "stamp", "link", "send"):
            self.assertGreater(words.count(word), 60, word)

    def test_put_on_one_by_one_and_nothing_is_changed(self):
        rng = random.Random(13)
        for trial in range(30):
            field, events = wild_history(rng)
            history = (field, ())
            for number, event in enumerate(events):
                elder = history
                history = put_on(history, event)
                self.assertEqual(elder, (field, events[:number]))
            self.assertEqual(history, (field, events))

    def test_by_name(self):
        self.assertEqual(event_lacks(thing=0, history=HISTORY), "shape")
        self.assertEqual(put_on(thing=EVENTS[0], history=(FIELD, ())), (FIELD, EVENTS[:1]))


if __name__ == "__main__":
    unittest.main()
