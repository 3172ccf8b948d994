"""[1], [9]: the main promise over the whole program."""

import random
import unittest
from fractions import Fraction

from ledclocks.coverchecker import lets_cover
from ledclocks.errors import NoWorld
from ledclocks.followchecker import lets_follow_ring
from ledclocks.followers import follow_ring, follows_of
from ledclocks.hearing import has_heard, part_heard
from ledclocks.histories import is_history
from ledclocks.keptchecker import lets_kept
from ledclocks.keptpairs import first_void, kept_pairs, kept_paper
from ledclocks.logs import is_log
from ledclocks.majorities import by_majority, cover_paper
from ledclocks.net_rounds import state_round
from ledclocks.net_trees import pieces_of, tree_paper
from ledclocks.nets import is_state
from ledclocks.reaching import least_way, reach
from ledclocks.relaychecker import lets_relay
from ledclocks.relays import relay_bounds, relay_from
from ledclocks.replaying import replayed
from ledclocks.ringchecker import lets_ring
from ledclocks.ringfinding import ring_of, world_or_ring
from ledclocks.settling import rounds_to_halt
from ledclocks.showing import far_off, shown_times
from ledclocks.shownchecker import lets_shown
from ledclocks.sourcing import by_heard
from ledclocks.stretching import stretch_of
from ledclocks.treechecker import lets_tree
from ledclocks.waychecker import lets_way
from ledclocks.worldchecker import lets_world
from ledclocks.worldreaching import high_world, low_world
from ledclocks.worlds import is_world, source_times, world_bars
from tests.court_things import court_of, random_head, random_log
from tests.net_things import random_net, random_state, random_up
from tests.things import (number_of, oracle_reach, pair_of, random_field, refusal_of, true_history, wild_history,
                          world_of)


def drawn_courts(seed, many):
    """COURTS whose EVENTS come of true times, and these as WORLDS."""
    rng = random.Random(seed)
    for trial in range(many):
        head = random_head(rng)
        field = random_field(rng, houses=rng.randint(2, 4), links=6)
        history, truth = true_history(rng, field, 18)
        rows = tuple([("note",) + event for event in history[1]])
        yield rng, court_of((head[:1] + (field,) + head[2:],) + rows), world_of(truth)


def holds(pair, moment):
    low, high = [number_of(end) for end in pair]
    return (low is None or low <= moment) and (high is None or moment <= high)


def no_wider(inner, outer):
    low = outer[0] is None or (inner[0] is not None and number_of(inner[0]) >= number_of(outer[0]))
    high = outer[1] is None or (inner[1] is not None and number_of(inner[1]) <= number_of(outer[1]))
    return low and high


class TestSourceTime(unittest.TestCase):
    def test_it_lies_in_kept_and_heard_pairs(self):
        seen = narrower = 0
        for rng, court, world in drawn_courts(9, 40):
            history = court.history()
            self.assertIsNone(world_bars(history, world))
            for event, moment in enumerate(source_times(history, world)):
                kept, heard = court.kept(event), court.heard(event)
                self.assertTrue(no_wider(heard, kept))
                self.assertEqual((kept, heard), (kept_pairs(history)[event], by_heard(history, event)))
                if moment is not None:
                    self.assertTrue(holds(kept, number_of(moment)))
                    self.assertTrue(holds(heard, number_of(moment)))
                    seen += kept[0] is not None
                    narrower += kept != heard
        self.assertGreater(seen, 150)
        self.assertGreater(narrower, 5)

    def test_it_lies_in_what_the_next_mark_would_have(self):
        for rng, court, world in drawn_courts(10, 25):
            history = court.history()
            times = source_times(history, world)
            for name, slow, fast in history[0][0]:
                own = [k for k, event in enumerate(history[1]) if event[0] == name]
                if own and times[0] is not None:
                    gone = Fraction(rng.randint(0, 30), rng.randint(1, 4))
                    rate = rng.choice((number_of(slow), number_of(fast), 1))
                    stamp = number_of(history[1][own[-1]][1]) + gone * rate
                    now = court.now(name, pair_of(stamp))
                    self.assertTrue(holds(now, number_of(times[own[-1]]) + gone))

    def test_stretches_hold_in_it_and_are_reached_by_others(self):
        for rng, court, world in drawn_courts(11, 15):
            history = court.history()
            for x in range(len(world)):
                y = rng.randrange(len(world))
                pair = stretch_of(history, x, y)
                self.assertTrue(holds(pair, number_of(world[y]) - number_of(world[x])))
                for end, told in zip(pair, (low_world(history, x, y), high_world(history, x, y))):
                    self.assertEqual(lets_world(history, told), len(world))
                    if end is not None:
                        self.assertEqual(number_of(told[y]) - number_of(told[x]), number_of(end))

    def test_what_was_heard_can_be_no_narrower(self):
        reached = 0
        for rng, court, world in drawn_courts(12, 12):
            history = court.history()
            for event in range(len(world)):
                part = part_heard(history, event)
                cut = tuple([world[k] for k in has_heard(history, event)])
                self.assertIsNone(world_bars(part, cut))
                last = len(part[1]) - 1
                marks = [k for k, each in enumerate(part[1]) if each[0] == part[0][2]]
                for side, call in enumerate((low_world, high_world)):
                    end = court.heard(event)[side]
                    if end is not None:
                        told = call(part, marks[0], last)
                        self.assertEqual(source_times(part, told)[last], end)
                        reached += 1
        self.assertGreater(reached, 60)

    def test_agreed_holds_whoever_lies(self):
        seen = 0
        for rng, court, world in drawn_courts(13, 25):
            times = source_times(court.history(), world)
            for turn in range(6 if times[0] is not None else 0):
                events = tuple([rng.randrange(len(world)) for number in range(rng.randint(1, 5))])
                moment = number_of(times[events[-1]])
                for liars in range(3):
                    self.assertTrue(holds(court.agreed(events, liars=liars), moment))
                told = self.lied_to(rng, court, events, 1)
                if told is not None:
                    self.assertTrue(holds(told, moment))
                    seen += 1
        self.assertGreater(seen, 60)

    def lied_to(self, rng, court, events, liars):
        """What a majority tells where one of the moved pairs is another one."""
        history = court.history()
        spans = []
        for number in events:
            far = stretch_of(history, number, events[-1])
            spans.append(tuple([None if None in (end, by) else pair_of(number_of(end) + number_of(by))
                                for end, by in zip(court.kept(number), far)]))
        at = rng.randrange(len(spans))
        low = Fraction(rng.randint(-999, 999))
        spans[at] = (pair_of(low), pair_of(low + rng.randint(0, 9)))
        return by_majority(tuple(spans), liars=liars)

    def test_what_is_shown_never_goes_back_and_is_no_further_than_far(self):
        for rng, court, world in drawn_courts(14, 25):
            history = court.history()
            slew = pair_of(Fraction(rng.randint(0, 98), 99))
            shown = shown_times(history, slew=slew)
            self.assertIs(lets_shown(history, shown, slew=slew), True)
            last = {}
            for event, each in zip(history[1], shown):
                self.assertGreaterEqual(number_of(each), last.get(event[0], number_of(each)))
                last[event[0]] = number_of(each)
            for each, far, moment in zip(shown, far_off(history, shown), source_times(history, world)):
                self.assertTrue(far is None or abs(number_of(each) - number_of(moment)) <= number_of(far))


class TestWorldOrRing(unittest.TestCase):
    def test_just_one_of_both(self):
        rng = random.Random(29)
        kinds = []
        for trial in range(150):
            field = random_field(rng, houses=3, links=6)
            history = wild_history(rng, field, rng.randint(0, 14)) if trial % 3 else true_history(rng, field, 14)[0]
            kind, told = world_or_ring(history)
            kinds.append(kind)
            if kind == "world":
                self.assertEqual(lets_world(history, told), len(history[1]))
                self.assertIsNone(ring_of(history))
                self.assertIsNotNone(oracle_reach(history))
                self.assertIsNone(first_void(history))
            else:
                self.assertLess(number_of(lets_ring(history, told)), 0)
                self.assertLess(number_of(lets_ring(history, ring_of(history))), 0)
                self.assertIsNone(oracle_reach(history))
                self.refused_by_all(history, rng)
        self.assertGreater(min(kinds.count("world"), kinds.count("ring")), 20)

    def refused_by_all(self, history, rng):
        x, y = rng.randrange(len(history[1])), rng.randrange(len(history[1]))
        for call in (reach, least_way, stretch_of, high_world, low_world):
            refused = refusal_of(call, history, x, y)
            self.assertIs(refused[0], NoWorld)
            self.assertLess(number_of(lets_ring(history, refused[1])), 0)
        barred = [event for event in range(len(history[1])) if ring_of(part_heard(history, event)) is not None]
        for event in barred:
            refused = refusal_of(by_heard, history, event)
            self.assertIs(refused[0], NoWorld)
            self.assertLess(number_of(lets_ring(part_heard(history, event), refused[1])), 0)

    def test_a_court_stands_so_over_its_deeds(self):
        rng = random.Random(30)
        for trial in range(25):
            court = court_of(random_log(rng))
            barred = False
            for k in range(len(court) + 1):
                history = court.elder(k)
                self.assertTrue(is_history(history))
                kind, told = world_or_ring(history)
                # What bars once bars with EVENTS more, too.
                self.assertTrue(kind == "ring" or not barred)
                barred = kind == "ring"
            self.assertEqual(court.stands()[0], kind)
            checker = lets_world if kind == "world" else lets_ring
            self.assertIsNone(refusal_of(checker, court.history(), court.stands()[1]))


class TestPapers(unittest.TestCase):
    def test_of_times_told_and_let_by(self):
        for rng, court, world in drawn_courts(40, 15):
            history = court.history()
            many = len(world)
            self.assertTrue(is_world(history, world))
            self.assertEqual(lets_world(history, world), many)
            self.assertEqual(lets_world(history, court.stands()[1]), many)
            for y in range(many):
                self.assertEqual(lets_kept(history, y, kept_paper(history, y)), court.kept(y))
                x = rng.randrange(many)
                relay = relay_from(history, x, y)
                self.assertEqual(relay is not None, x in has_heard(history, y))
                if relay is not None:
                    self.assertEqual(lets_relay(history, relay), relay_bounds(history, relay))
                    self.assertTrue(no_wider(stretch_of(history, x, y), relay_bounds(history, relay)))
                way = least_way(history, x, y)
                if way is not None:
                    self.assertEqual(lets_way(history, x, y, way), reach(history, x, y))
            spans = tuple([court.kept(rng.randrange(many)) for turn in range(rng.randint(0, 5))]) if many else ()
            for liars in range(len(spans) + 1):
                if refusal_of(by_majority, spans, liars=liars) is None:
                    paper = cover_paper(spans, liars=liars)
                    self.assertEqual(lets_cover(spans, paper, liars=liars), by_majority(spans, liars=liars))

    def test_of_nets_told_and_let_by(self):
        rng = random.Random(41)
        rings = 0
        for trial in range(150):
            net = random_net(rng)
            up, wires = random_up(rng, net)
            self.assertEqual(lets_tree(net, up, wires, tree_paper(net, up, wires)), len(pieces_of(net, up, wires)))
            state = random_state(rng, net)
            self.assertTrue(is_state(net, state))
            self.assertTrue(is_state(net, state_round(net, state, wires)))
            pairs = follows_of(state)
            ring = follow_ring(pairs)
            if ring is not None:
                self.assertEqual(lets_follow_ring(pairs, ring), len(ring))
                rings += 1
        self.assertGreater(rings, 20)

    def test_told_things_may_be_handed_in_again_whatever_their_size(self):
        for rng, court, world in drawn_courts(42, 6):
            history = court.history()
            elder = world
            # Times of many figures, told by one answer and asked of the next.
            for turn in range(6):
                x, y = rng.randrange(len(world)), rng.randrange(len(world))
                far = pair_of(sum([abs(number_of(moment)) for moment in elder], Fraction(1, 7 ** (40 * turn))))
                elder = high_world(history, x, y, far=far)
                self.assertEqual(lets_world(history, elder), len(world))
                self.assertEqual(len(source_times(history, elder)), len(world))
                self.assertEqual(len(far_off(history, elder)), len(world))


class TestLeaders(unittest.TestCase):
    def test_when_nothing_turns_any_more_all_follow_one_leader(self):
        rng = random.Random(50)
        settled = 0
        for trial in range(40):
            court = court_of(random_log(rng))
            word, field, members, wires, most, age = court.log()[0]
            up = tuple([member[0] for member in members if court.best(member[0]) is not None])
            live = self.wires_up(court)
            for turn in range(rounds_to_halt((members, wires), up, live, most=most, age=age)):
                court.go_round()
            follows = dict(court.follows())
            rows = {row[0]: row for row in tree_paper((members, wires), up, live)}
            for piece in pieces_of((members, wires), up, live):
                if max([rows[name][2] for name in piece]) <= most:
                    self.assertEqual([name for name in piece if name in court.leaders()], [rows[piece[0]][1][2]])
                    for name in piece:
                        self.assertEqual(court.best(name), rows[name][1:])
                        self.assertEqual(follows.get(name, name), rows[name][3])
                    settled += len(piece) > 1
            self.assertEqual(replayed(court.log()).follows(), court.follows())
            self.assertTrue(is_log(court.log()))
        self.assertGreater(settled, 10)

    def wires_up(self, court):
        """The wires that are up, read off a COURT's LOG."""
        live = {wire: True for wire in court.log()[0][3]}
        for row in court.log()[1:]:
            if row[0] == "wire":
                live[tuple(sorted(row[1:3]))] = row[3]
        return tuple([wire for wire in sorted(live) if live[wire]])


if __name__ == "__main__":
    unittest.main()
