"""[2], [9]: each refusal by each way to it: its class alone, the very things as fields, and nothing is changed."""

import unittest

from ledclocks.coverchecker import lets_cover
from ledclocks.desk import Desk
from ledclocks.errors import (ClockError, LackError, Lied, NoEvent, NoHouse, NoLink, NoNumber, NoPaper, NoRow, NoStep,
                              NoText, NoWorld)
from ledclocks.followchecker import lets_follow_ring
from ledclocks.hearing import has_heard, part_heard
from ledclocks.histories import put_on
from ledclocks.keepers import Keeper
from ledclocks.keptchecker import lets_kept
from ledclocks.letters import house_events
from ledclocks.majorities import by_majority, cover_paper
from ledclocks.net_runs import NetRun
from ledclocks.nets import first_state, state_up
from ledclocks.reaching import least_way, reach, reach_clever, reach_plain
from ledclocks.readings import read_log, read_row
from ledclocks.relaychecker import lets_relay
from ledclocks.replaying import replayed
from ledclocks.ringchecker import lets_ring
from ledclocks.shownchecker import lets_shown
from ledclocks.sourcing import by_heard
from ledclocks.stretching import stretch_of
from ledclocks.treechecker import lets_tree
from ledclocks.waychecker import lets_way
from ledclocks.worldchecker import lets_world
from ledclocks.worldreaching import high_world, low_world
from tests.court_things import DEEDS, FIELD, HEAD, MARK, MEMBERS, WIRES, all_told, court_of
from tests.things import bars, odd_things, refusal_of

NET = (MEMBERS, WIRES)
HISTORY = court_of((HEAD,) + DEEDS).history()
SPANS = (((0, 1), (1, 1)), ((5, 1), (6, 1)), ((6, 1), None))
# A letter is heard, and answered, and all of it in less of ann's time than it takes.
RING_DEEDS = (("note", "ann", (0, 1), ("send", 0)), ("note", "bo", (0, 1), ("hear", 0)),
              ("note", "bo", (0, 1), ("send", 2)), ("note", "ann", (1, 1), ("hear", 2)))
BARRED = court_of((HEAD,) + RING_DEEDS).history()
# Things built anew, so that none of them is the same object as one that the program holds.
NAME = "".join(["z", "e", "d"])
BIG = int("9" * 59)


class Refused(unittest.TestCase):
    def refused(self, wanted, call, *given, **named):
        """The refusal is of just this class, with just these fields, the very things."""
        try:
            told = call(*given, **named)
        except (ClockError, LackError) as refusal:
            self.assertIs(type(refusal), wanted[0], call)
            fields = tuple(vars(refusal).values())
            self.assertEqual(repr(fields), repr(wanted[1:]), call)
            for field, thing in zip(fields, wanted[1:]):
                if thing is NAME or thing is BIG:
                    self.assertIs(field, thing)
            return
        self.fail(f"{call} told {told!r}")


class TestByFunctions(Refused):
    def test_no_paper_of_shape_by_each_checker(self):
        checkers = ((lets_world, (HISTORY,)), (lets_relay, (HISTORY,)), (lets_way, (HISTORY, 0, 1)),
                    (lets_ring, (HISTORY,)), (lets_kept, (HISTORY, 1)), (lets_cover, (SPANS,)),
                    (lets_shown, (HISTORY,)),
                    (lets_tree, (NET, ("ann",), WIRES)), (lets_follow_ring, ((("ann", "bo"),),)))
        shapes = 0
        for checker, given in checkers:
            for thing in odd_things():
                refused = refusal_of(checker, *given, thing)
                # A checker either tells, or refuses so; nothing else comes of any thing.
                self.assertTrue(refused is None or refused[0] is NoPaper)
                shapes += refused == (NoPaper, "shape", -1)
            self.refused((NoPaper, "shape", -1), checker, *given, ["no", "tuple"])
            self.refused((NoPaper, "shape", -1), checker, *given, (True,))
            self.refused((NoPaper, "shape", -1), checker, *given, None)
        self.assertGreater(shapes, 300)

    def test_no_paper_at_two_numbers(self):
        self.refused((NoPaper, "event", (1, 0)), lets_kept, HISTORY, 1, (None, (BIG,)))
        self.refused((NoPaper, "number", (0, 1)), lets_cover, SPANS, ((0, 1), None, (0, 3), ()))
        alone = tuple([(name, (rank, kind, name), 0, name) for name, rank, kind in MEMBERS])
        self.refused((NoPaper, "near", (0, 1)), lets_tree, NET, ("ann", "bo", "cy"), WIRES, alone)

    def test_no_world(self):
        for call, given in ((reach_plain, (0,)), (reach_clever, (0,)), (reach, (0, 1)), (least_way, (0, 1)),
                            (stretch_of, (0, 1)), (high_world, (0, 1)), (low_world, (0, 1)), (by_heard, (3,))):
            refused = refusal_of(call, BARRED, *given)
            self.assertIs(refused[0], NoWorld)
            self.assertTrue(bars(BARRED, refused[1]), call)
            self.assertEqual(len(refused), 2)

    def test_no_number(self):
        for history in (HISTORY, BARRED, (FIELD, ())):
            for number in (BIG, -1, 4):
                for call in (has_heard, part_heard, reach_plain, reach_clever, by_heard):
                    self.refused((NoNumber, number), call, history, number)
                for call in (reach, least_way, stretch_of, high_world, low_world):
                    self.refused((NoNumber, number), call, history, number, -5)
                    self.refused((NoNumber, number), call, history, number, number)
                self.refused((NoNumber, number), lets_way, history, number, -5, None)
        for call in (reach, least_way, stretch_of, high_world, low_world):
            self.refused((NoNumber, BIG), call, HISTORY, 0, BIG)
        self.refused((NoNumber, BIG), lets_way, HISTORY, 0, BIG, None)

    def test_no_event(self):
        for thing, word in ((None, "shape"), ((NAME, (0, 1), MARK), "house"), (("ann", (0, 1), MARK), "stamp"),
                            (("ann", (9, 1), ("send", BIG)), "link"), (("bo", (9, 1), ("hear", BIG)), "send")):
            self.refused((NoEvent, word, 4), put_on, HISTORY, thing)

    def test_no_house(self):
        self.refused((NoHouse, NAME), house_events, HISTORY, NAME)
        self.refused((NoHouse, NAME), state_up, NET, first_state(NET), NAME, True)

    def test_lied(self):
        self.refused((Lied, 1), by_majority, SPANS)
        self.refused((Lied, 1), cover_paper, SPANS, liars=0)
        self.refused((Lied, 2), by_majority, (SPANS[0], SPANS[1], ((9, 1), (9, 1))), liars=1)
        self.refused((Lied, 2), cover_paper, (SPANS[0], SPANS[1], ((9, 1), (9, 1))), liars=1)

    def test_no_text(self):
        self.refused((NoText, 0, 1), read_row, "up")
        self.refused((NoText, 0, 0), read_row, "")
        self.refused((NoText, 0, 0), read_log, [])
        self.refused((NoText, 1, 0), read_log, ["court ann 4 1"])
        self.refused((NoText, 1, 3), read_log, ["court ann 4 1", "house ann 1"])

    def test_nothing_handed_in_is_changed(self):
        lines = ["court ann 4 1", "house ann 1", "x"]
        refusal_of(read_log, lines)
        self.assertEqual(lines, ["court ann 4 1", "house ann 1", "x"])
        thing = [[1, 2], "ann"]
        refusal_of(lets_world, HISTORY, thing)
        self.assertEqual(thing, [[1, 2], "ann"])


class TestByObjects(Refused):
    # The refusals of notes, whoever is asked to note: a house, a stamp, a deed, and what comes.
    NOTES = ((NAME, (9, 1), MARK, (NoHouse, NAME)), ("ann", (8, 1), MARK, (NoEvent, "falls", 3)),
             ("ann", (9, 1), ("send", BIG), (NoLink, BIG)), ("ann", (9, 1), ("send", 2), (NoEvent, "from", 2)),
             ("bo", (9, 1), ("hear", BIG), (NoNumber, BIG)), ("bo", (9, 1), ("hear", 1), (NoEvent, "send", 1)),
             ("cy", (9, 1), ("hear", 0), (NoEvent, "to", 0)))

    def test_a_keeper(self):
        keeper = Keeper(FIELD)
        for event in HISTORY[1]:
            keeper.note(*event)
        for house, stamp, deed, wanted in self.NOTES:
            self.refused(wanted, keeper.note, house, stamp, deed)
        for house, stamp, deed, wanted in self.NOTES[:2]:
            self.refused(wanted, keeper.now, house, stamp)
        for number in (BIG, 4, -1):
            self.refused((NoNumber, number), keeper.pair, number)
        self.assertEqual(keeper.history(), HISTORY)

    def test_a_run(self):
        run = NetRun(NET)
        state = run.state_now()
        for truth in (True, False):
            self.refused((NoHouse, NAME), run.set_up, NAME, truth)
            self.refused((NoLink, ("ann", NAME)), run.set_wire, "ann", NAME, truth)
            self.refused((NoLink, ("cy", "ann")), run.set_wire, "cy", "ann", truth)
        self.refused((NoHouse, NAME), run.best_of, NAME)
        self.refused((NoHouse, NAME), run.heard_of, NAME)
        self.assertEqual((run.state_now(), run.wires_now(), len(run)), (state, WIRES, 0))

    def test_a_court(self):
        court = court_of((HEAD,) + DEEDS)
        told = all_told(court)
        for house, stamp, deed, wanted in self.NOTES:
            self.refused(wanted, court.note, house, stamp, deed)
            self.refused(wanted, court.do_all, [("round",), ("note", house, stamp, deed)])
            self.refused(wanted, replayed, court.log() + (("note", house, stamp, deed),))
        for house, stamp, deed, wanted in self.NOTES[:2]:
            self.refused(wanted, court.now, house, stamp)
        for row, wanted in ((("up", NAME, True), (NoHouse, NAME)),
                            (("wire", "cy", "ann", True), (NoLink, ("cy", "ann")))):
            self.refused(wanted, {"up": court.up, "wire": court.wire}[row[0]], *row[1:])
            self.refused(wanted, court.do_all, (("round",), row), keep=False)
            self.refused(wanted, replayed, court.log() + (row,))
        self.refused((NoHouse, NAME), court.best, NAME)
        for number in (BIG, 4, -1):
            self.refused((NoNumber, number), court.kept, number)
            self.refused((NoNumber, number), court.heard, number)
            self.refused((NoNumber, number), court.agreed, (0, number, -7))
        for number in (BIG, 12, -1):
            self.refused((NoStep, number), court.elder, number)
        self.assertEqual(all_told(court), told)

    def test_a_court_of_no_deeds_and_one_that_a_ring_bars(self):
        court = court_of((HEAD,))
        self.refused((NoStep, 0), court.undo)
        self.assertEqual(court.log(), (HEAD,))
        court = court_of((HEAD,) + RING_DEEDS)
        for call, asked in ((court.heard, 3), (court.agreed, (0,))):
            refused = refusal_of(call, asked)
            self.assertIs(refused[0], NoWorld)
            self.assertTrue(bars(court.history(), refused[1]))
        self.assertEqual(court.log(), (HEAD,) + RING_DEEDS)

    def test_deeds_in_a_list_that_is_handed_in_stay(self):
        court = court_of((HEAD,))
        rows = [("round",), ("up", NAME, True), ("round",)]
        for keep, many in ((False, 0), (True, 1)):
            self.refused((NoHouse, NAME), court.do_all, rows, keep=keep)
            self.assertEqual(rows, [("round",), ("up", NAME, True), ("round",)])
            self.assertEqual((len(court), court.walks()), (many, 0))

    def test_a_desk(self):
        desk = Desk()
        for row in ("count", "", "court", "round", "kept 0", "court ann 4 1"):
            self.refused((NoRow, row), desk.say, row)
        self.assertEqual(desk.say(str(court_of((HEAD,)))), "ok")
        self.refused((NoStep, 0), desk.say, "undo")
        for row in str(court_of((HEAD,) + RING_DEEDS)).split(" / ")[-4:]:
            desk.say(row)
        log = desk.say("log")
        for row, *wanted in (("note zed 0 mark", NoHouse, "zed"), ("note ann 0 mark", NoEvent, "falls", 3),
                             ("note ann 1 send 9", NoLink, 9), ("note ann 1 send 3", NoEvent, "from", 3),
                             ("note bo 1 hear 9", NoNumber, 9), ("note bo 1 hear 1", NoEvent, "send", 1),
                             ("note cy 1 hear 0", NoEvent, "to", 0), ("up zed no", NoHouse, "zed"),
                             ("wire cy ann no", NoLink, ("cy", "ann")), ("kept 4", NoNumber, 4),
                             ("heard -1", NoNumber, -1), ("now zed 0", NoHouse, "zed"),
                             ("now ann 0", NoEvent, "falls", 3), ("best zed", NoHouse, "zed")):
            self.refused(tuple(wanted), desk.say, row)
        self.assertIs(refusal_of(desk.say, "heard 3")[0], NoWorld)
        for row in ("Count", "count ", " count", "kept", "kept x", "kept 1 2", "now ann", "up ann", "note ann 1",
                    "undo 1"):
            self.refused((NoRow, row), desk.say, row)
            self.assertEqual(desk.say("log"), log)


if __name__ == "__main__":
    unittest.main()
