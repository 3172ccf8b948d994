"""[79], and what follows in [75], [76], [77], [78], [86]: LOGS REPLAYED."""

import random
import unittest

from ledclocks.court import Court
from ledclocks.desk import Desk
from ledclocks.errors import NoEvent, NoHouse, NoLink, NoNumber
from ledclocks.logs import is_log
from ledclocks.readings import read_log
from ledclocks.replaying import replayed
from ledclocks.texts import log_lines, row_line
from tests.court_things import DEEDS, HEAD, MARK, all_told, court_of, do, heard_told, random_head, random_log
from tests.things import refusal_of

MORE = (("note", "ann", (10, 1), MARK), ("round",), ("up", "cy", False), ("note", "cy", (0, 1), ("hear", 2)),
        ("wire", "cy", "bo", False), ("round",), ("up", "ann", False), ("round",))


class TestReplayed(unittest.TestCase):
    def same(self, one, other):
        self.assertIs(one == other, True)
        self.assertIs(one != other, False)
        self.assertEqual(all_told(one), all_told(other))

    def test_of_no_deeds(self):
        court = replayed((HEAD,))
        self.assertIs(type(court), Court)
        self.assertEqual(court.log(), (HEAD,))
        self.same(court, court_of((HEAD,)))
        self.assertEqual((len(court), court.walks()), (0, 0))

    def test_of_every_deed(self):
        court = replayed((HEAD,) + DEEDS)
        self.assertEqual(court.log(), (HEAD,) + DEEDS)
        self.same(court, court_of((HEAD,) + DEEDS))
        self.assertEqual(court.walks(), 0)

    def test_a_courts_log_is_equal_to_it_and_goes_on_alike(self):
        rng = random.Random(79)
        for trial in range(40):
            log = random_log(rng)
            at = rng.randint(1, len(log))
            court = court_of(log[:at])
            other = replayed(court.log())
            self.same(court, other)
            for row in log[at:]:
                self.assertEqual(do(court, row), do(other, row))
                self.assertEqual(court.log(), other.log())
            self.same(court, other)

    def test_undone_alike(self):
        rng = random.Random(77)
        for trial in range(12):
            court = court_of(random_log(rng, 10))
            other = replayed(court.log())
            while len(court) > 0:
                self.assertEqual(court.undo(), other.undo())
                self.same(court, other)
                self.same(court, replayed(court.log()))

    def test_behind_undo_and_refusals(self):
        court = court_of((HEAD,) + DEEDS)
        court.undo()
        refusal_of(court.note, "ann", (0, 1), MARK)
        refusal_of(court.do_all, MORE + (("up", "zed", True),))
        self.same(court, replayed(court.log()))
        refusal_of(court.do_all, MORE + (("up", "zed", True),), keep=True)
        self.assertEqual(len(court), len(DEEDS) - 1 + len(MORE))
        self.same(court, replayed(court.log()))
        court.do_all(MORE[1:2] * 3)
        self.same(court, replayed(court.log()))

    def test_a_new_one_each_time(self):
        log = (HEAD,) + DEEDS
        one, other = replayed(log), replayed(log)
        one.go_round()
        self.assertEqual((len(one), len(other)), (12, 11))
        self.assertIs(one == other, False)
        self.assertEqual(log, (HEAD,) + DEEDS)

    def test_the_state_of_the_net_too(self):
        court = court_of((HEAD, ("round",), ("round",), ("up", "bo", False)))
        other = replayed(court.log())
        for turn in range(6):
            self.assertEqual(court.go_round(), other.go_round())
            self.assertEqual([court.best(name) for name in ("ann", "bo", "cy")],
                             [other.best(name) for name in ("ann", "bo", "cy")])

    def test_elder_histories(self):
        rng = random.Random(76)
        for trial in range(15):
            log = random_log(rng)
            court = replayed(log)
            for k in range(len(log)):
                self.assertEqual(court.elder(k), replayed(log[:k + 1]).history())

    def test_most_and_age(self):
        for most, age in ((0, 0), (1, 0), (9, 4), (0, 3)):
            head = HEAD[:4] + (most, age)
            self.assertEqual(replayed((head,) + DEEDS).log()[0], head)
            self.same(replayed((head,) + DEEDS), court_of((head,) + DEEDS))

    def test_pairs_are_never_others_later(self):
        rng = random.Random(75)
        for trial in range(10):
            log = random_log(rng, 14)
            elder = []
            for many in range(1, len(log) + 1):
                court = replayed(log[:many])
                now = [(court.kept(k), heard_told(court, k)) for k in range(len(court.history()[1]))]
                self.assertEqual(now[:len(elder)], elder)
                elder = now

    def test_by_name(self):
        self.assertEqual(len(replayed(log=(HEAD,) + DEEDS)), 11)


class TestRefusals(unittest.TestCase):
    def refused(self, rows, *wanted):
        self.assertTrue(is_log((HEAD,) + rows))
        self.assertEqual(repr(refusal_of(replayed, (HEAD,) + rows)), repr(wanted))

    def test_of_each_kind(self):
        for row, *wanted in ((("note", "zed", (0, 1), MARK), NoHouse, "zed"),
                             (("note", "ann", (8, 1), MARK), NoEvent, "falls", 3),
                             (("note", "ann", (9, 1), ("send", 4)), NoLink, 4),
                             (("note", "ann", (9, 1), ("send", 2)), NoEvent, "from", 2),
                             (("note", "bo", (9, 1), ("hear", 4)), NoNumber, 4),
                             (("note", "bo", (9, 1), ("hear", 1)), NoEvent, "send", 1),
                             (("note", "cy", (9, 1), ("hear", 0)), NoEvent, "to", 0),
                             (("up", "zed", True), NoHouse, "zed"),
                             (("wire", "cy", "ann", True), NoLink, ("cy", "ann")),
                             (("wire", "bo", "bo", False), NoLink, ("bo", "bo"))):
            self.refused(DEEDS + (row,), *wanted)
            self.refused(DEEDS + (row, ("round",)), *wanted)

    def test_the_first_one(self):
        self.refused((("up", "zed", True), ("wire", "ann", "cy", True)), NoHouse, "zed")
        self.refused((("wire", "ann", "cy", True), ("up", "zed", True)), NoLink, ("ann", "cy"))
        self.refused((("round",), ("note", "bo", (0, 1), ("hear", 0)), ("up", "zed", True)), NoNumber, 0)

    def test_the_very_things(self):
        name = "".join(["z", "e", "d"])
        with self.assertRaises(NoHouse) as caught:
            replayed((HEAD, ("up", name, True)))
        self.assertIs(caught.exception.name, name)

    def test_as_a_court_refuses(self):
        rng = random.Random(78)
        kinds = []
        for trial in range(120):
            head = random_head(rng)
            rows = tuple([row for log in (random_log(rng, 4), random_log(rng, 4)) for row in log[1:]])
            wanted = None
            court = court_of((head,))
            for row in rows:
                wanted = refusal_of(do, court, row)
                if wanted is not None:
                    break
            self.assertEqual(repr(refusal_of(replayed, (head,) + rows)), repr(wanted))
            kinds.append(None if wanted is None else wanted[0])
        self.assertGreater(min(kinds.count(NoHouse), kinds.count(NoLink)), 5)


class TestTextsAndDesks(unittest.TestCase):
    def test_written_and_read_and_replayed(self):
        rng = random.Random(81)
        for trial in range(25):
            court = court_of(random_log(rng, short=True))
            other = replayed(read_log(log_lines(court.log())))
            self.assertIs(court == other, True)
            self.assertEqual(all_told(court), all_told(other))
            self.assertEqual(str(other), str(court))

    def test_behind_each_row_a_desk_as_a_court_of_its_log(self):
        rng = random.Random(86)
        for trial in range(12):
            log = random_log(rng, short=True)
            desk = Desk()
            desk.say(" / ".join(log_lines(log[:1])))
            for row in log[1:]:
                desk.say(row_line(row))
                court = replayed(read_log(desk.say("log").split(" / ")))
                self.assertEqual(desk.say("count"), str(len(court)))
                self.assertEqual(desk.say("stands"), court.stands()[0])
                self.assertEqual(desk.say("leaders"), " ".join(court.leaders()) or "-")
                self.assertEqual(desk.say("follows"), " ".join([".".join(pair) for pair in court.follows()]) or "-")
                self.assertEqual(all_told(desk.court), all_told(court))
                if rng.random() < 0.2:
                    self.assertEqual(desk.say("undo"), row_line(court.undo()))
                    self.assertEqual(all_told(desk.court), all_told(replayed(court.log())))
                    desk.say(row_line(row))


if __name__ == "__main__":
    unittest.main()
