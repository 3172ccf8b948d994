"""[84], [85], [86]: a desk."""

import random
import unittest

from ledclocks.desk import Desk
from ledclocks.errors import NoEvent, NoHouse, NoLink, NoNumber, NoRow, NoStep, NoWorld
from ledclocks.texts import log_lines, row_line
from tests.court_things import all_told, court_of, do, random_log
from tests.things import bars, refusal_of

OPENING = ("court ann 4 1 / house ann 1 1 / house bo 1/2 3/2 / house cy 2/3 2 / link ann bo 1 3 / link ann bo 2 - / "
           "link bo ann 1/2 5/2 / member ann 2 0 / member bo 1 5 / member cy 1 7 / line ann bo / line bo cy")
LEAST = "court ann 0 0 / house ann 1 1"
TALK = (("count", "0"), ("leaders", "ann bo cy"), ("follows", "-"), ("stands", "world"), ("log", OPENING),
        ("note ann 5 send 0", "0"), ("note bo 2 hear 0", "1"), ("kept 0", "5 5"), ("kept 1", "6 8"), ("heard 1", "6 8"),
        ("now bo 5", "8 14"), ("now bo 5/2", "19/3 9"), ("now ann 11/2", "11/2 11/2"), ("now cy -1", "- -"),
        ("note bo 3 send 2", "2"), ("note ann 10 hear 2", "3"), ("note ann 10 send 1", "4"), ("note bo 6 hear 4", "5"),
        ("kept 5", "12 16"), ("heard 5", "12 31/2"), ("note cy 1/3 mark", "6"), ("kept 6", "- -"), ("heard 6", "- -"),
        ("best ann", "2 0 ann 0 ann"), ("round", "2"), ("best ann", "1 5 bo 1 bo"), ("best bo", "1 5 bo 0 bo"),
        ("follows", "ann.bo cy.bo"), ("leaders", "bo"), ("up bo no", "ok"), ("best bo", "none"), ("leaders", "-"),
        ("wire cy bo no", "ok"), ("count", "10"), ("round", "0"), ("undo", "round"), ("undo", "wire cy bo no"),
        ("undo", "up bo no"), ("undo", "round"), ("undo", "note cy 1/3 mark"), ("count", "6"), ("follows", "-"),
        ("undo", "note bo 6 hear 4"), ("log", OPENING + " / note ann 5 send 0 / note bo 2 hear 0 / note bo 3 send 2 / "
                                       "note ann 10 hear 2 / note ann 10 send 1"))
NO_ROWS = ("", " ", "/", "x", "count ", " count", "count  ", "count 0", "log x", "undo 1", "undo ", "stands world",
           "follows ann", "leaders ", "kept", "kept ", "kept x", "kept 01", "kept -0", "kept 1/2", "kept 1 2", "kept  1",
           "kept 1000000000", "heard", "heard ann", "heard +1", "heard 0 ", "now", "now bo", "now Bo 1", "now bo x",
           "now bo 2/4", "now bo 1/1", "now bo 1 mark", "now  bo 1", "now bo 1000000000", "best", "best Bo",
           "best abcdefghi", "best bo bo", "best ", "Count", "COUNT", "round 1", "round ", "note bo 9 send -1",
           "note bo 9 hear -1", "note bo 9 marks", "note bo 9", "note Bo 9 mark", "note bo 18/2 mark", "note bo 9 mark ",
           "up bo true", "up bo", "wire ann bo", "wire ann bo maybe", "court", "court ann 4 1", "house ann 1 1",
           "link ann bo 0 -", "member ann 0 0", "line ann bo", "deed", "none", "ok", "world", "elder 0", "agreed 0",
           "do", "history", "field", LEAST + " / round", LEAST + " / note ann 0 mark", LEAST + " /", LEAST + " / ",
           LEAST + "/ member ann 0 0", LEAST + " /  / member ann 0 0", LEAST + " / / member ann 0 0", " " + LEAST,
           LEAST + " ", LEAST + " / house ann 1 1", LEAST + " / court ann 0 0", "court bo 0 0 / house ann 1 1",
           "court ann 0 0 / house ann 1/2 1", "court ann -1 0 / house ann 1 1", LEAST + " / count", "court " + LEAST,
           "count / count", "note ann 9 mark / round", LEAST + " / line ann bo", "-")


def say(desk, row):
    """What a desk answers, or how it refuses."""
    refused = refusal_of(desk.say, row)
    return desk.say(row) if refused is None else refused


class TestDesk(unittest.TestCase):
    def talk(self, desk, rows):
        for row, answer in rows:
            told = desk.say(row)
            self.assertEqual((told, type(told)), (answer, str), row)

    def refused(self, desk, row, *wanted):
        self.assertEqual(repr(refusal_of(desk.say, row)), repr(wanted), row)

    def opened(self, *rows):
        desk = Desk()
        self.assertEqual(desk.say(OPENING), "ok")
        for row in rows:
            desk.say(row)
        return desk

    def test_a_talk(self):
        self.talk(self.opened(), TALK)

    def test_ahead_of_the_first_court(self):
        desk = Desk()
        for row, answer in TALK:
            self.refused(desk, row, NoRow, row)
        for row in NO_ROWS:
            self.refused(desk, row, NoRow, row)
        self.refused(desk, "kept -1", NoRow, "kept -1")
        self.refused(desk, "best zed", NoRow, "best zed")
        self.talk(desk, ((LEAST, "ok"), ("count", "0")))

    def test_rows_that_are_none(self):
        desk = self.opened("note ann 5 send 0", "round")
        for row in NO_ROWS:
            self.refused(desk, row, NoRow, row)
        self.assertEqual(desk.say("log"), OPENING + " / note ann 5 send 0 / round")

    def test_the_row_itself(self):
        row = "".join(["no", " ", "row"])
        with self.assertRaises(NoRow) as caught:
            self.opened().say(row)
        self.assertIs(caught.exception.row, row)

    def test_refusals_of_the_court(self):
        desk = self.opened("note ann 5 send 0", "note bo 2 hear 0", "up cy no")
        for row, *wanted in (("note dee 0 mark", NoHouse, "dee"), ("note ann 4 mark", NoEvent, "falls", 0),
                             ("note ann 9 send 3", NoLink, 3), ("note ann 9 send 2", NoEvent, "from", 2),
                             ("note bo 9 hear 2", NoNumber, 2), ("note bo 9 hear 1", NoEvent, "send", 1),
                             ("note cy 9 hear 0", NoEvent, "to", 0), ("up dee yes", NoHouse, "dee"),
                             ("wire ann cy no", NoLink, ("ann", "cy")), ("wire cy cy no", NoLink, ("cy", "cy")),
                             ("kept 2", NoNumber, 2), ("kept -1", NoNumber, -1), ("heard 2", NoNumber, 2),
                             ("heard -999999999", NoNumber, -999999999), ("now dee 0", NoHouse, "dee"),
                             ("now bo 1", NoEvent, "falls", 1), ("best dee", NoHouse, "dee")):
            self.refused(desk, row, *wanted)
            self.assertEqual(desk.say("count"), "3")
        self.refused(self.opened(), "undo", NoStep, 0)

    def test_a_ring(self):
        desk = self.opened("note ann 0 send 0", "note bo 0 hear 0", "note bo 0 send 2", "note ann 1 hear 2")
        self.talk(desk, (("stands", "ring"), ("kept 3", "1 1"), ("heard 2", "1 3")))
        refused = refusal_of(desk.say, "heard 3")
        self.assertIs(refused[0], NoWorld)
        self.assertTrue(bars(desk.court.history(), refused[1]))

    def test_a_new_court_in_the_place_of_the_old_one(self):
        desk = self.opened("note ann 5 send 0")
        self.talk(desk, ((LEAST, "ok"), ("count", "0"), ("log", LEAST), ("leaders", "-"), ("follows", "-")))
        self.refused(desk, "best ann", NoHouse, "ann")
        self.refused(desk, "court ann 4", NoRow, "court ann 4")
        self.talk(desk, (("log", LEAST), (OPENING, "ok"), ("log", OPENING)))

    def test_two_desks(self):
        one, other = self.opened(), self.opened()
        one.say("round")
        self.assertEqual((one.say("count"), other.say("count")), ("1", "0"))

    def test_numbers_below_nought_and_long_ones(self):
        desk = self.opened("note bo -7/2 mark", "note ann -999999999 send 0", "note bo 999999999 hear 1")
        self.talk(desk, (("kept 2", "-999999998 -999999996"), ("undo", "note bo 999999999 hear 1"),
                         ("kept 1", "-999999999 -999999999"), ("undo", "note ann -999999999 send 0"),
                         ("undo", "note bo -7/2 mark")))

    def test_behind_each_row_as_a_court_of_its_log(self):
        rng = random.Random(86)
        for trial in range(25):
            log = random_log(rng, short=True)
            desk = Desk()
            court = court_of(log[:1])
            self.assertEqual(desk.say(" / ".join(log_lines(log[:1]))), "ok")
            for row in log[1:]:
                told = do(court, row)
                self.assertEqual(desk.say(row_line(row)), "ok" if told is None else str(told))
                self.check(desk, court)
                if rng.random() < 0.2:
                    self.assertEqual(desk.say("undo"), row_line(court.undo()))
                    self.check(desk, court)
                    self.assertEqual(desk.say(row_line(row)) == "ok", do(court, row) is None)

    def check(self, desk, court):
        """A desk and a COURT tell the same, and asking changes nothing."""
        told = all_told(court)
        self.assertEqual(desk.say("log"), " / ".join(log_lines(court.log())))
        self.assertEqual(desk.say("count"), str(len(court)))
        self.assertEqual(desk.say("stands"), court.stands()[0])
        self.assertEqual(desk.say("follows"), " ".join([one + "." + who for one, who in court.follows()]) or "-")
        self.assertEqual(desk.say("leaders"), " ".join(court.leaders()) or "-")
        for number in range(-1, len(court.history()[1]) + 1):
            for word, call in (("kept", court.kept), ("heard", court.heard)):
                self.pair_told(desk, f"{word} {number}", call, number)
        for name, slow, fast in court.field()[0]:
            for stamp in ((0, 1), (999, 1)):
                self.pair_told(desk, f"now {name} {stamp[0]}", court.now, name, stamp)
        for name, priority, rank in court.log()[0][2]:
            best = court.best(name)
            wanted = "none" if best is None else "{} {} {} {} {}".format(*best[0], *best[1:])
            self.assertEqual(desk.say("best " + name), wanted)
        self.assertEqual(all_told(desk.court), told)

    def pair_told(self, desk, row, call, *given):
        refused = refusal_of(call, *given)
        if refused is None:
            words = ["-" if end is None else str(end[0]) + ("" if end[1] == 1 else "/" + str(end[1]))
                     for end in call(*given)]
            self.assertEqual(desk.say(row), " ".join(words))
        else:
            wanted = refusal_of(desk.say, row)
            self.assertEqual(wanted if refused[0] is not NoWorld else wanted[:1],
                             refused if refused[0] is not NoWorld else refused[:1])

    def test_what_only_asks_changes_nothing(self):
        desk = self.opened("note ann 5 send 0", "note bo 2 hear 0", "round")
        told = all_told(desk.court)
        for row in ("count", "log", "kept 1", "heard 1", "now bo 5", "stands", "best bo", "follows", "leaders"):
            self.assertEqual(say(desk, row), say(desk, row))
            self.assertEqual(all_told(desk.court), told)

    def test_by_name(self):
        self.assertEqual(Desk().say(row=LEAST), "ok")
        self.assertIn("say", vars(Desk))


if __name__ == "__main__":
    unittest.main()
