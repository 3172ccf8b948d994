"""[76], [77], [78]: a COURT over its deeds."""

import random
import unittest

from ledclocks.court import Court
from ledclocks.errors import NoEvent, NoHouse, NoLink, NoNumber, NoStep
from tests.court_things import (DEEDS, FIELD, HEAD, MARK, MEMBERS, WIRES, all_told, court_of, do, random_deeds,
                                random_head, random_log)
from tests.things import odd_things, refusal_of

WRONG_ROWS = ((("note", "dee", (0, 1), MARK), (NoHouse, "dee")), (("note", "ann", (8, 1), MARK), (NoEvent, "falls", 3)),
              (("note", "ann", (99, 1), ("send", 7)), (NoLink, 7)),
              (("note", "bo", (9, 1), ("hear", 50)), (NoNumber, 50)),
              (("up", "dee", True), (NoHouse, "dee")), (("wire", "ann", "cy", True), (NoLink, ("ann", "cy"))))
MORE = (("note", "ann", (10, 1), MARK), ("round",), ("up", "cy", False), ("note", "cy", (0, 1), ("hear", 2)),
        ("wire", "cy", "bo", False), ("round",))


class TestLog(unittest.TestCase):
    def test_a_row_for_each_deed(self):
        court = Court(FIELD, MEMBERS, WIRES)
        for many, row in enumerate(DEEDS):
            self.assertEqual(court.log(), (HEAD,) + DEEDS[:many])
            self.assertEqual(len(court), many)
            do(court, row)
        self.assertIs(type(court.log()), tuple)
        self.assertEqual([type(row) for row in court.log()], [tuple] * 12)

    def test_refused_deeds_have_none(self):
        court = court_of((HEAD,) + DEEDS)
        for row, wanted in WRONG_ROWS:
            self.assertEqual(refusal_of(do, court, row), wanted)
        self.assertEqual(court.log(), (HEAD,) + DEEDS)

    def test_deeds_that_turn_nothing_have_one(self):
        court = Court(FIELD, MEMBERS, WIRES)
        court.up("ann", True)
        court.wire("ann", "bo", True)
        court.wire("bo", "ann", True)
        self.assertEqual(court.log()[1:], (("up", "ann", True), ("wire", "ann", "bo", True),
                                           ("wire", "bo", "ann", True)))

    def test_asking_has_none(self):
        court = court_of((HEAD,) + DEEDS)
        all_told(court)
        court.agreed((0, 1))
        self.assertEqual(court.log(), (HEAD,) + DEEDS)

    def test_done_again_it_is_equal_and_tells_the_same(self):
        rng = random.Random(79)
        for trial in range(40):
            log = random_log(rng)
            court = court_of(log)
            self.assertEqual(court.log(), log)
            other = court_of(court.log())
            self.assertTrue(court == other)
            self.assertEqual(all_told(court), all_told(other))

    def test_str(self):
        self.assertEqual(str(Court(((("ann", (1, 1), (1, 1)),), (), "ann"), (), ())), "court ann 4 1 / house ann 1 1")
        court = court_of((HEAD,) + DEEDS[:5])
        self.assertEqual(str(court), "court ann 4 1 / house ann 1 1 / house bo 1/2 3/2 / house cy 2/3 2 / "
                         "link ann bo 1 3 / link ann bo 2 - / link bo ann 1/2 5/2 / link bo cy 1/2 5/2 / "
                         "member ann 2 0 / member bo 1 5 / member cy 1 7 / line ann bo / line bo cy / "
                         "note ann 5 send 0 / round / note bo 2 hear 0 / up bo no / wire bo ann no")


class TestEquality(unittest.TestCase):
    def same(self, one, other, truth):
        self.assertIs(one == other, truth)
        self.assertIs(other == one, truth)
        self.assertIs(one != other, not truth)
        self.assertIs(other != one, not truth)

    def test_just_where_logs_are_the_same(self):
        one, other = Court(FIELD, MEMBERS, WIRES), Court(FIELD, MEMBERS, WIRES, most=4, age=1)
        self.same(one, one, True)
        self.same(one, other, True)
        for row in DEEDS:
            do(one, row)
            self.same(one, other, False)
            do(other, row)
            self.same(one, other, True)

    def test_unlike_first_rows(self):
        for field, members, wires, most, age in ((FIELD, MEMBERS, WIRES, 5, 1), (FIELD, MEMBERS, WIRES, 4, 0),
                                                 (FIELD, MEMBERS, (), 4, 1), (FIELD, (), (), 4, 1),
                                                 (FIELD[:1] + ((), "ann"), MEMBERS, WIRES, 4, 1)):
            self.same(Court(FIELD, MEMBERS, WIRES), Court(field, members, wires, most=most, age=age), False)

    def test_unlike_rows_that_lead_to_the_same(self):
        one, other = Court(FIELD, MEMBERS, WIRES), Court(FIELD, MEMBERS, WIRES)
        one.wire("ann", "bo", False)
        other.wire("bo", "ann", False)
        self.same(one, other, False)

    def test_no_other_thing(self):
        court = court_of((HEAD,) + DEEDS)
        for thing in odd_things() + [court.log(), str(court), len(court), court.history(), list(court.log())]:
            self.same(court, thing, False)
        self.same(Court(FIELD, MEMBERS, WIRES), (HEAD,), False)


class TestElder(unittest.TestCase):
    def test_behind_each(self):
        court = court_of((HEAD,) + DEEDS)
        events = court.history()[1]
        for k, many in enumerate((0, 1, 1, 2, 2, 2, 3, 3, 3, 4, 4, 4)):
            self.assertEqual(court.elder(k), (FIELD, events[:many]))
        self.assertEqual(court.elder(11), court.history())

    def test_by_a_court_of_as_many_deeds(self):
        rng = random.Random(80)
        for trial in range(30):
            log = random_log(rng)
            court = court_of(log)
            for k in range(len(court) + 1):
                self.assertEqual(court.elder(k), court_of(log[:k + 1]).history())

    def test_no_step(self):
        court = court_of((HEAD,) + DEEDS)
        for k in (-1, -2, 12, 13, 10 ** 50, -(10 ** 50)):
            self.assertEqual(refusal_of(court.elder, k), (NoStep, k))
        new = Court(FIELD, MEMBERS, WIRES)
        self.assertEqual(new.elder(0), (FIELD, ()))
        self.assertEqual(refusal_of(new.elder, 1), (NoStep, 1))
        self.assertEqual(refusal_of(new.elder, -1), (NoStep, -1))


class TestUndo(unittest.TestCase):
    def test_back_to_none(self):
        rng = random.Random(81)
        for trial in range(25):
            log = random_log(rng)
            court = court_of(log)
            for many in range(len(log) - 1, 0, -1):
                row = court.undo()
                self.assertEqual((row, type(row)), (log[many], tuple))
                other = court_of(log[:many])
                self.assertTrue(court == other)
                self.assertEqual(all_told(court), all_told(other))
            self.assertEqual(refusal_of(court.undo), (NoStep, 0))
            self.assertEqual(court.log(), log[:1])

    def test_and_on_again(self):
        court = court_of((HEAD,) + DEEDS)
        told = all_told(court)
        for row in DEEDS[:4:-1]:
            self.assertEqual(court.undo(), row)
        for row in DEEDS[5:]:
            do(court, row)
        self.assertEqual(all_told(court), told)

    def test_of_none(self):
        court = Court(FIELD, MEMBERS, WIRES)
        self.assertEqual(refusal_of(court.undo), (NoStep, 0))
        self.assertEqual(court.log(), (HEAD,))
        self.assertEqual(court.note("ann", (0, 1), MARK), 0)

    def test_what_a_round_told_is_told_again(self):
        court = Court(FIELD, MEMBERS, WIRES)
        self.assertEqual((court.go_round(), court.undo(), court.go_round()), (2, ("round",), 2))


class TestDoAll(unittest.TestCase):
    def test_all_in_one(self):
        rng = random.Random(82)
        for trial in range(30):
            head = random_head(rng)
            deeds = random_deeds(rng, head, rng.randint(0, 20))
            for kept in ({}, {"keep": False}, {"keep": True}):
                for rows in (deeds, list(deeds)):
                    court = court_of((head,))
                    told = court.do_all(rows, **kept)
                    self.assertEqual((told, type(told)), (len(deeds), int))
                    self.assertEqual(court.log(), (head,) + deeds)
                    self.assertEqual(all_told(court), all_told(court_of((head,) + deeds)))
                    self.assertEqual(rows, type(rows)(deeds))

    def test_none_at_all(self):
        court = court_of((HEAD,) + DEEDS)
        for rows in ((), []):
            for keep in (True, False):
                self.assertEqual(repr(court.do_all(rows, keep=keep)), "0")
        self.assertEqual(court.log(), (HEAD,) + DEEDS)

    def test_refused_in_the_middle(self):
        for row, wanted in WRONG_ROWS:
            for at in range(len(MORE) + 1):
                rows = MORE[:at] + (row,) + MORE[at:]
                wanted_now = (NoEvent, "falls", 4) if wanted == (NoEvent, "falls", 3) and at > 0 else wanted
                court = court_of((HEAD,) + DEEDS)
                self.assertEqual(refusal_of(court.do_all, rows), wanted_now)
                self.assertEqual(all_told(court), all_told(court_of((HEAD,) + DEEDS)))
                self.assertEqual(refusal_of(court.do_all, list(rows), keep=False), wanted_now)
                self.assertEqual(all_told(court), all_told(court_of((HEAD,) + DEEDS)))
                self.assertEqual(refusal_of(court.do_all, list(rows), keep=True), wanted_now)
                self.assertEqual(all_told(court), all_told(court_of((HEAD,) + DEEDS + MORE[:at])))
                self.assertEqual(court.walks(), 0)

    def test_the_first_refusal_comes(self):
        court = court_of((HEAD,) + DEEDS)
        rows = [MORE[0], WRONG_ROWS[4][0], WRONG_ROWS[5][0]]
        self.assertEqual(refusal_of(court.do_all, rows), (NoHouse, "dee"))
        self.assertEqual(refusal_of(court.do_all, rows[::-1]), (NoLink, ("ann", "cy")))

    def test_goes_on_behind_a_refusal(self):
        court = court_of((HEAD,) + DEEDS)
        refusal_of(court.do_all, (MORE[0], WRONG_ROWS[0][0]))
        self.assertEqual(court.note("ann", (10, 1), MARK), 4)
        self.assertEqual(court.undo(), MORE[0])
        self.assertEqual(court.do_all(MORE), 6)
        self.assertEqual(court.undo(), ("round",))
        self.assertEqual(court.log(), (HEAD,) + DEEDS + MORE[:-1])

    def test_its_own_log_and_anothers(self):
        one, other = court_of((HEAD,) + DEEDS), Court(FIELD, MEMBERS, WIRES)
        self.assertEqual(other.do_all(one.log()[1:]), 11)
        self.assertTrue(one == other)
        one.go_round()
        self.assertEqual((len(one), len(other)), (12, 11))

    def test_walks_are_none_whatever_was_told_or_refused(self):
        court = Court(FIELD, MEMBERS, WIRES)
        self.assertEqual(repr(court.walks()), "0")
        court.do_all(DEEDS)
        self.assertEqual(court.walks(), 0)
        for row, wanted in WRONG_ROWS:
            for keep in (True, False):
                refusal_of(court.do_all, (row,), keep=keep)
                self.assertEqual(court.walks(), 0)
        court.undo()
        refusal_of(court.elder, -1)
        self.assertEqual(court.walks(), 0)


if __name__ == "__main__":
    unittest.main()
