"""[71], [72], [73], [74], [75]: a COURT's deeds, and what it tells."""

import random
import unittest

from ledclocks.court import Court
from ledclocks.errors import Lied, NoEvent, NoHouse, NoLink, NoNumber, NoWorld
from ledclocks.hearing import part_heard
from ledclocks.keptpairs import kept_pairs
from ledclocks.majorities import by_majority
from ledclocks.net_runs import NetRun
from ledclocks.sourcing import by_heard
from tests.court_things import (DEEDS, FIELD, HEAD, MARK, MEMBERS, WIRES, all_told, court_of, do, heard_told,
                                random_head, random_log)
from tests.things import (bars, number_of, oracle_reach, oracle_steps, pair_of, random_field, refusal_of,
                          source_stamps, told_of, true_history)

# A letter is heard, and answered, and all of it in less of ann's time than it takes.
RING_DEEDS = (("note", "ann", (0, 1), ("send", 0)), ("note", "bo", (0, 1), ("hear", 0)),
              ("note", "bo", (0, 1), ("send", 2)), ("note", "ann", (1, 1), ("hear", 2)), ("note", "cy", (0, 1), MARK))


class TestDeeds(unittest.TestCase):
    def test_each_deed_tells_what_the_keeper_and_the_net_do(self):
        court = Court(FIELD, MEMBERS, WIRES)
        told = [do(court, row) for row in DEEDS]
        self.assertEqual(repr(told), repr([0, 2, 1, None, None, 2, 0, None, 3, None, 0]))
        self.assertEqual(court.log(), (HEAD,) + DEEDS)

    def test_a_new_one(self):
        court = Court(FIELD, MEMBERS, WIRES)
        self.assertEqual(court.log(), (HEAD,))
        self.assertEqual(court.history(), (FIELD, ()))
        self.assertEqual(court.field(), FIELD)
        self.assertEqual(court.leaders(), ("ann", "bo", "cy"))
        self.assertEqual(court.follows(), ())
        self.assertEqual(court.stands(), ("world", ()))
        self.assertEqual((len(court), court.walks()), (0, 0))

    def test_by_name(self):
        court = Court(wires=WIRES, members=MEMBERS, field=FIELD, age=2, most=3)
        self.assertEqual(court.log(), (HEAD[:4] + (3, 2),))
        self.assertEqual(court.note(deed=("send", 0), stamp=(5, 1), house="ann"), 0)
        self.assertIsNone(court.up(truth=False, name="cy"))
        self.assertIsNone(court.wire(truth=False, other="ann", one="bo"))
        self.assertEqual(court.log()[1:], (("note", "ann", (5, 1), ("send", 0)), ("up", "cy", False),
                                           ("wire", "bo", "ann", False)))
        self.assertEqual(court.kept(number=0), ((5, 1), (5, 1)))
        self.assertEqual(court.heard(number=0), ((5, 1), (5, 1)))
        self.assertEqual(court.now(stamp=(6, 1), house="ann"), ((6, 1), (6, 1)))
        self.assertIsNone(court.best(name="cy"))
        self.assertEqual(court.agreed(events=(0,), liars=0), ((5, 1), (5, 1)))
        self.assertEqual(court.elder(k=1), court.history())
        self.assertEqual(court.do_all(deeds=[], keep=True), 0)

    def test_those_behind_a_star_by_name_alone(self):
        court = court_of((HEAD,) + DEEDS)
        for call, given in ((Court, (FIELD, MEMBERS, WIRES, 4)), (court.agreed, ((0,), 0)),
                            (court.do_all, ((), True))):
            with self.assertRaises(TypeError):
                call(*given)

    def test_most_and_age_lead_the_net(self):
        rng = random.Random(71)
        for trial in range(30):
            log = random_log(rng)
            word, field, members, wires, most, age = log[0]
            court = court_of((log[0],))
            run = NetRun((members, wires), most=most, age=age)
            for row in log[1:]:
                told = do(court, row)
                if row[0] == "up":
                    run.set_up(*row[1:])
                if row[0] == "wire":
                    run.set_wire(*row[1:])
                if row[0] == "round":
                    self.assertEqual(told, run.go_round())
                for name, priority, rank in members:
                    self.assertEqual(court.best(name), run.best_of(name))

    def test_nothing_is_shared_between_two(self):
        one, other = Court(FIELD, MEMBERS, WIRES), Court(FIELD, MEMBERS, WIRES)
        do(one, DEEDS[0])
        self.assertEqual((len(one), len(other)), (1, 0))
        self.assertEqual(other.history(), (FIELD, ()))

    def test_all_of_it_stands_in_the_class_itself(self):
        for name in ("note", "up", "wire", "go_round", "field", "history", "kept", "heard", "now", "stands", "best",
                     "follows", "leaders", "agreed", "log", "elder", "undo", "do_all", "walks", "__len__", "__str__",
                     "__eq__", "__ne__"):
            self.assertIn(name, vars(Court))


class TestRefusals(unittest.TestCase):
    def setUp(self):
        self.court = court_of((HEAD,) + DEEDS)
        self.told = all_told(self.court)

    def refused(self, wanted, call, *given, **named):
        self.assertEqual(repr(refusal_of(call, *given, **named)), repr(wanted))
        self.assertEqual(all_told(self.court), self.told)

    def test_notes(self):
        note = self.court.note
        self.refused((NoHouse, "dee"), note, "dee", (9, 1), MARK)
        self.refused((NoEvent, "falls", 3), note, "ann", (8, 1), MARK)
        self.refused((NoLink, 4), note, "ann", (9, 1), ("send", 4))
        self.refused((NoLink, -1), note, "ann", (9, 1), ("send", -1))
        self.refused((NoEvent, "from", 2), note, "ann", (9, 1), ("send", 2))
        self.refused((NoNumber, 4), note, "bo", (9, 1), ("hear", 4))
        self.refused((NoNumber, -1), note, "bo", (9, 1), ("hear", -1))
        self.refused((NoEvent, "send", 1), note, "bo", (9, 1), ("hear", 1))
        self.refused((NoEvent, "to", 0), note, "cy", (9, 1), ("hear", 0))

    def test_notes_of_several_the_first_one(self):
        note = self.court.note
        for deed in (("send", 9), ("send", 0), ("hear", 9), ("hear", 1), ("hear", 2)):
            self.refused((NoHouse, "dee"), note, "dee", (-9, 1), deed)
            self.refused((NoEvent, "falls", 2), note, "bo", (-9, 1), deed)
        self.refused((NoEvent, "send", 3), note, "cy", (0, 1), ("hear", 3))

    def test_members_and_wires(self):
        for truth in (True, False):
            self.refused((NoHouse, "dee"), self.court.up, "dee", truth)
            self.refused((NoLink, ("ann", "cy")), self.court.wire, "ann", "cy", truth)
            self.refused((NoLink, ("cy", "ann")), self.court.wire, "cy", "ann", truth)
            self.refused((NoLink, ("bo", "bo")), self.court.wire, "bo", "bo", truth)
            self.refused((NoLink, ("zed", "a")), self.court.wire, "zed", "a", truth)

    def test_what_is_told(self):
        for number in (4, 5, -1, -4, 10 ** 50):
            self.refused((NoNumber, number), self.court.kept, number)
            self.refused((NoNumber, number), self.court.heard, number)
            self.refused((NoNumber, number), self.court.agreed, (number,))
        self.refused((NoHouse, "dee"), self.court.now, "dee", (9, 1))
        self.refused((NoEvent, "falls", 3), self.court.now, "ann", (8, 1))
        self.refused((NoHouse, "dee"), self.court.best, "dee")

    def test_the_very_things(self):
        name = "".join(["d", "e", "e"])
        with self.assertRaises(NoHouse) as caught:
            self.court.up(name, True)
        self.assertIs(caught.exception.name, name)


class TestTold(unittest.TestCase):
    def test_kept_and_heard_by_hand(self):
        court = court_of((HEAD, ("note", "bo", (0, 1), ("send", 2)), ("note", "ann", (10, 1), ("hear", 0)),
                          ("note", "ann", (10, 1), ("send", 1)), ("note", "bo", (2, 1), ("hear", 2)),
                          ("note", "cy", (2, 1), MARK)))
        self.assertEqual(court.kept(3), ((12, 1), None))
        self.assertEqual(court.heard(3), ((12, 1), (27, 2)))
        self.assertEqual((court.kept(0), court.heard(0)), ((None, None), (None, None)))
        self.assertEqual((court.kept(2), court.heard(2)), (((10, 1), (10, 1)), ((10, 1), (10, 1))))
        self.assertEqual((court.kept(4), court.heard(4)), ((None, None), (None, None)))

    def test_kept_heard_and_now_at_random(self):
        rng = random.Random(72)
        for trial in range(40):
            court = court_of(random_log(rng))
            history = court.history()
            self.assertEqual([court.kept(k) for k in range(len(history[1]))], list(kept_pairs(history)))
            for number in range(len(history[1])):
                refused = refusal_of(court.heard, number)
                if refused is not None:
                    self.assertIs(refused[0], NoWorld)
                    self.assertTrue(bars(part_heard(history, number), refused[1]))
                else:
                    self.assertEqual(court.heard(number), by_heard(history, number))
            for name, slow, fast in history[0][0]:
                stamps = [event[1] for event in history[1] if event[0] == name]
                stamp = stamps[-1] if stamps else (1, 3)
                told = court.now(name, stamp)
                self.assertEqual(told, kept_pairs((history[0], history[1] + ((name, stamp, MARK),)))[-1])
                self.assertEqual(court.history(), history)

    def test_now_later_and_later_is_no_narrower(self):
        court = court_of((HEAD,) + DEEDS)
        last = None
        for gone in range(10):
            low, high = [number_of(end) for end in court.now("bo", pair_of(number_of((7, 2)) + gone))]
            self.assertTrue(last is None or high - low >= last)
            last = high - low
        self.assertEqual(court.now("bo", (5, 1)), ((8, 1), (14, 1)))
        self.assertEqual(court.now("cy", (5, 1)), (None, None))

    def test_stands_with_a_world_and_with_a_ring(self):
        rng = random.Random(73)
        kinds = []
        for trial in range(60):
            court = court_of(random_log(rng))
            kind, told = court.stands()
            kinds.append(kind)
            if kind == "ring":
                self.assertTrue(bars(court.history(), told))
                continue
            self.assertEqual((kind, len(told)), ("world", len(court.history()[1])))
            for x, y, w in oracle_steps(court.history()):
                self.assertLessEqual(number_of(told[y]), number_of(told[x]) + number_of(w))
        self.assertGreater(kinds.count("world"), 10)
        court = court_of((HEAD,) + RING_DEEDS)
        kind, ring = court.stands()
        self.assertEqual(kind, "ring")
        self.assertTrue(bars(court.history(), ring))

    def test_heard_refused_where_no_world_fits_its_part(self):
        court = court_of((HEAD,) + RING_DEEDS)
        refused = refusal_of(court.heard, 3)
        self.assertIs(refused[0], NoWorld)
        self.assertTrue(bars(part_heard(court.history(), 3), refused[1]))
        self.assertEqual([heard_told(court, number) for number in (0, 1, 4)],
                         [((0, 1), (0, 1)), ((1, 1), (3, 1)), (None, None)])
        self.assertEqual(refusal_of(court.heard, 5), (NoNumber, 5))

    def test_events_more_turn_no_pair(self):
        rng = random.Random(75)
        for trial in range(15):
            log = random_log(rng, 15)
            court = court_of((log[0],))
            seen = []
            for row in log[1:]:
                do(court, row)
                if row[0] == "note":
                    seen.append(None)
                now = [(court.kept(k), heard_told(court, k)) for k in range(len(seen))]
                self.assertTrue(all([elder is None or elder == pair for elder, pair in zip(seen, now)]))
                seen = now

    def test_the_net(self):
        court = Court(FIELD, MEMBERS, WIRES)
        for turned in (2, 0):
            self.assertEqual(court.go_round(), turned)
        self.assertEqual(court.best("ann"), ((1, 5, "bo"), 1, "bo"))
        self.assertEqual(court.best("bo"), ((1, 5, "bo"), 0, "bo"))
        self.assertEqual(court.follows(), (("ann", "bo"), ("cy", "bo")))
        self.assertEqual(court.leaders(), ("bo",))
        court.up("bo", False)
        self.assertIsNone(court.best("bo"))
        self.assertEqual(court.leaders(), ())
        court.wire("cy", "bo", False)
        for turn in range(8):
            court.go_round()
        self.assertEqual((court.follows(), court.leaders()), ((), ("ann", "cy")))
        self.assertEqual([type(court.follows()), type(court.leaders())], [tuple, tuple])

    def test_those_that_lead_are_up_and_follow_nobody(self):
        rng = random.Random(74)
        for trial in range(40):
            court = court_of(random_log(rng))
            names = [member[0] for member in court.log()[0][2]]
            up = [name for name in names if court.best(name) is not None]
            follows = {name: court.best(name)[2] for name in up if court.best(name)[2] != name}
            self.assertEqual(court.follows(), tuple(sorted(follows.items())))
            self.assertEqual(court.leaders(), tuple([name for name in up if name not in follows]))

    def test_no_members(self):
        court = Court(FIELD, (), ())
        self.assertEqual((court.follows(), court.leaders(), court.go_round()), ((), (), 0))
        self.assertEqual(refusal_of(court.best, "ann"), (NoHouse, "ann"))


def moved_spans(history, events):
    """The KEPT pairs moved by [74], with Fractions; None where no WORLD FITS."""
    table = oracle_reach(history)
    if table is None:
        return None
    last = events[-1]
    spans = []
    for number in events:
        low, high = [number_of(end) for end in kept_pairs(history)[number]]
        low = None if low is None or table[last][number] is None else low - table[last][number]
        high = None if high is None or table[number][last] is None else high + table[number][last]
        spans.append((told_of(low), told_of(high)))
    return tuple(spans)


class TestAgreed(unittest.TestCase):
    def test_of_one(self):
        court = court_of((HEAD,) + DEEDS)
        for number in range(4):
            self.assertEqual(court.agreed((number,)), court.kept(number))
            self.assertEqual(court.agreed((number,) * 3, liars=1), court.kept(number))
            self.assertEqual(court.agreed((number,), liars=1), (None, None))

    def test_moved_to_the_last_in_the_tuple(self):
        court = court_of((HEAD, ("note", "ann", (5, 1), ("send", 0)), ("note", "bo", (2, 1), ("hear", 0)),
                          ("note", "bo", (5, 1), MARK), ("note", "ann", (9, 1), MARK), ("note", "cy", (0, 1), MARK)))
        self.assertEqual(court.agreed((0, 1)), ((6, 1), (8, 1)))
        self.assertEqual(court.agreed((1, 0)), ((5, 1), (5, 1)))
        self.assertEqual(court.agreed((1, 0), liars=1), ((3, 1), (7, 1)))
        self.assertEqual(court.agreed((2, 3), liars=1), ((3, 1), (15, 1)))
        self.assertEqual(court.agreed((0, 3)), ((9, 1), (9, 1)))
        self.assertEqual(court.agreed((0, 1, 4)), (None, None))
        self.assertEqual(court.agreed((4, 4, 1), liars=1), (None, None))
        self.assertEqual(type(court.agreed((0, 1))), tuple)

    def test_by_the_oracle(self):
        rng = random.Random(76)
        kinds = []
        for trial in range(200):
            court = court_of(random_log(rng, 14))
            many = len(court.history()[1])
            if many == 0:
                continue
            events = tuple([rng.randrange(many) for turn in range(rng.randint(1, 5))])
            spans = moved_spans(court.history(), events)
            if spans is None:
                refused = refusal_of(court.agreed, events)
                self.assertIs(refused[0], NoWorld)
                self.assertTrue(bars(court.history(), refused[1]))
                kinds.append("ring")
                continue
            for liars in range(len(events) + 2):
                wanted = refusal_of(by_majority, spans, liars=liars)
                self.assertEqual(refusal_of(court.agreed, events, liars=liars), wanted)
                if wanted is None:
                    self.assertEqual(court.agreed(events, liars=liars), by_majority(spans, liars=liars))
                    kinds.append("told")
        self.assertGreater(kinds.count("told"), 100)
        self.assertGreater(kinds.count("ring"), 5)

    def test_true_ones_agree_and_hold_the_source_time(self):
        rng = random.Random(77)
        seen = 0
        for trial in range(40):
            history, truth = true_history(rng, random_field(rng, houses=3, links=6), 14)
            mark = source_stamps(history)
            if mark is None:
                continue
            court = court_of((HEAD[:1] + history[:1] + HEAD[2:],) + tuple([("note",) + row for row in history[1]]))
            for turn in range(5):
                events = tuple([rng.randrange(len(truth)) for number in range(4)])
                at_last = mark[0] + truth[events[-1]] - truth[mark[1]]
                for liars in range(3):
                    low, high = [number_of(end) for end in court.agreed(events, liars=liars)]
                    self.assertTrue(low is None or low <= at_last)
                    self.assertTrue(high is None or at_last <= high)
                    seen += low is not None
        self.assertGreater(seen, 50)

    def test_no_number_the_first_ahead_of_no_world(self):
        court = court_of((HEAD,) + RING_DEEDS)
        self.assertEqual(refusal_of(court.agreed, (0, 9, -1, 1)), (NoNumber, 9))
        self.assertEqual(refusal_of(court.agreed, (-1, 9)), (NoNumber, -1))
        self.assertEqual(refusal_of(court.agreed, (0, 5), liars=3), (NoNumber, 5))
        for events in ((4,), (0,), (0, 1), (4, 4)):
            for liars in (0, 5):
                refused = refusal_of(court.agreed, events, liars=liars)
                self.assertIs(refused[0], NoWorld)
                self.assertTrue(bars(court.history(), refused[1]))
        self.assertEqual(court.log(), (HEAD,) + RING_DEEDS)

    def test_a_kept_pair_that_is_void_bars_all(self):
        court = court_of((HEAD, ("note", "ann", (0, 1), ("send", 0)), ("note", "bo", (0, 1), ("hear", 0)),
                          ("note", "ann", (9, 1), ("send", 0)), ("note", "bo", (0, 1), ("hear", 2))))
        self.assertEqual(court.kept(3), ((10, 1), (3, 1)))
        self.assertIs(refusal_of(court.agreed, (3,))[0], NoWorld)

    def test_lied(self):
        # Lied can't be due of what is kept; so it is looked at where pairs were spoilt by hand.
        court = court_of((HEAD, ("note", "ann", (5, 1), MARK), ("note", "ann", (6, 1), MARK)))
        court.keeper.pairs[0] = ((50, 1), (51, 1))
        self.assertEqual(refusal_of(court.agreed, (0, 1)), (Lied, 1))
        self.assertEqual(court.agreed((0, 1, 1), liars=1), ((6, 1), (6, 1)))


class TestHeads(unittest.TestCase):
    def test_fields_and_nets_of_any_kind(self):
        rng = random.Random(78)
        for trial in range(40):
            head = random_head(rng)
            court = court_of((head,))
            self.assertEqual(court.log(), (head,))
            self.assertEqual((court.field(), court.history()), (head[1], (head[1], ())))
            self.assertEqual(court.leaders(), tuple([member[0] for member in head[2]]))


if __name__ == "__main__":
    unittest.main()
