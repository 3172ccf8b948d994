"""[65], [66], [67], [68], [69]: GHOSTS, and HALT."""

import random
import unittest

from ledclocks.followers import follow_ring, follows_of, leaders_of
from ledclocks.net_rounds import state_behind, state_round
from ledclocks.net_runs import NetRun
from ledclocks.net_trees import pieces_of, tree_paper
from ledclocks.nets import first_state, state_up
from ledclocks.settling import ghosts_of, rounds_to_halt
from tests.net_things import (key_of, only_tuples, oracle_pieces, oracle_tree, random_net, random_state, random_up,
                              random_wires)

MEMBERS = (("ann", 0, 0), ("bo", 1, 0), ("cy", 2, 0), ("dee", 3, 0))
WIRES = (("ann", "bo"), ("bo", "cy"), ("bo", "dee"), ("cy", "dee"))
NET = (MEMBERS, WIRES)
NAMES = ("ann", "bo", "cy", "dee")
ANN, BO, CY, DEE = [key_of(member) for member in MEMBERS]
ROW = ((("a", 1, 0), ("b", 1, 0), ("c", 1, 0), ("d", 1, 0), ("e", 0, 0)),
       (("a", "b"), ("b", "c"), ("c", "d"), ("d", "e")))


def oracle_ghosts(net, state, wires):
    """GHOSTS by [65]."""
    up = tuple([row[0] for row in state if row[1] is not None])
    keys = {member[0]: key_of(member) for member in net[0]}
    ghosts = []
    for piece in oracle_pieces(up, net[1] if wires is None else wires):
        for name, best, heard in state:
            if name in piece and best[0] not in [keys[other] for other in piece]:
                ghosts.append((name, best[0]))
    return tuple(sorted(ghosts))


def up_of(state):
    return tuple([row[0] for row in state if row[1] is not None])


class TestGhosts(unittest.TestCase):
    def told(self, state, wires, ghosts):
        told = ghosts_of(NET, state, wires)
        self.assertEqual(told, ghosts)
        self.assertTrue(only_tuples(told))

    def test_none_at_first(self):
        self.told(first_state(NET), None, ())
        self.told(first_state(NET), (), ())
        self.assertEqual(ghosts_of(NET, first_state(NET)), ())
        self.assertEqual(ghosts_of(((), ()), ()), ())

    def test_behind_a_leader_that_is_gone(self):
        state = state_behind(NET, first_state(NET), 5)
        self.told(state, None, ())
        gone = state_up(NET, state, "ann", False)
        self.told(gone, None, (("bo", ANN), ("cy", ANN), ("dee", ANN)))
        self.assertEqual(ghosts_of(net=NET, state=gone, wires=WIRES), (("bo", ANN), ("cy", ANN), ("dee", ANN)))
        for turn in range(4 + 1 + 1):
            gone = state_round(NET, gone)
        self.told(gone, None, ())
        self.assertEqual([row[1] for row in gone[1:]], [(BO, 0, "bo"), (BO, 1, "bo"), (BO, 1, "bo")])

    def test_they_go_round_for_a_while(self):
        gone = state_up(NET, state_behind(NET, first_state(NET), 5), "ann", False)
        self.assertNotEqual(ghosts_of(NET, state_behind(NET, gone, 3)), ())
        self.assertNotEqual(ghosts_of(NET, state_behind(NET, gone, 30, most=99), None), ())
        self.assertEqual(ghosts_of(NET, state_behind(NET, gone, 101, most=99), None), ())

    def test_by_wires_that_are_down(self):
        state = state_behind(NET, first_state(NET), 5)
        self.told(state, WIRES[1:], (("bo", ANN), ("cy", ANN), ("dee", ANN)))
        self.told(state, WIRES[:1], (("cy", ANN), ("dee", ANN)))
        self.told(state, (), (("bo", ANN), ("cy", ANN), ("dee", ANN)))
        self.told(state, WIRES, ())

    def test_keys_of_nobody_and_of_members_elsewhere(self):
        state = (("ann", ((0, 0, "zed"), 1, "bo"), ()), ("bo", (DEE, 1, "cy"), ()), ("cy", (CY, 9, "dee"), ()),
                 ("dee", None, ()))
        self.told(state, None, (("ann", (0, 0, "zed")), ("bo", DEE)))
        self.told(state, (), (("ann", (0, 0, "zed")), ("bo", DEE)))
        self.told(state[:3] + (("dee", (BO, 0, "dee"), ()),), WIRES[2:], (("ann", (0, 0, "zed")),))

    def test_a_key_of_a_member_that_was_another_one(self):
        state = (("ann", ((0, 1, "ann"), 0, "ann"), ()),) + first_state(NET)[1:]
        self.told(state, None, (("ann", (0, 1, "ann")),))

    def test_by_the_oracle(self):
        rng = random.Random(65)
        many = []
        for trial in range(400):
            net = random_net(rng)
            state = random_state(rng, net)
            wires = random_wires(rng, net)
            told = ghosts_of(net, state, wires)
            self.assertEqual(told, oracle_ghosts(net, state, wires))
            many.append(len(told))
        self.assertGreater(min(many.count(0), many.count(1), many.count(2)), 30)


class TestHalt(unittest.TestCase):
    def test_by_hand(self):
        up = ("a", "b", "c", "d", "e")
        for most, age, halt in ((4, 1, 10), (9, 1, 15), (3, 1, 8), (2, 0, 5), (1, 4, 7), (0, 0, 1), (0, 2, 3)):
            told = rounds_to_halt(ROW, up, ROW[1], most=most, age=age)
            self.assertEqual((told, type(told)), (halt, int))
        self.assertEqual(rounds_to_halt(ROW, up, ROW[1]), 10)
        self.assertEqual(rounds_to_halt(ROW, up, ROW[1][:2]), 8)

    def test_of_nobody_up_and_of_members_alone(self):
        self.assertEqual(rounds_to_halt(ROW, (), ROW[1]), 6)
        self.assertEqual(rounds_to_halt(ROW, (), (), most=0, age=0), 1)
        self.assertEqual(rounds_to_halt(ROW, ("a", "c", "e"), ROW[1]), 6)
        self.assertEqual(rounds_to_halt(((), ()), (), (), most=3, age=2), 6)

    def test_by_name(self):
        self.assertEqual(rounds_to_halt(age=2, most=3, wires=ROW[1], up=("a", "b"), net=ROW), 7)
        with self.assertRaises(TypeError):
            rounds_to_halt(ROW, (), (), 4)

    def test_by_the_oracle(self):
        rng = random.Random(66)
        wide = 0
        for trial in range(300):
            net = random_net(rng)
            up, wires = random_up(rng, net)
            steps = [row[2] for row in oracle_tree(net, up, wires)]
            elder = 0
            for most in range(0, 10):
                age = rng.randint(0, 4)
                near = [each for each in steps if each <= most]
                halt = rounds_to_halt(net, up, wires, most=most, age=age)
                self.assertEqual(halt, most + age + 1 + (max(near) if near else 0))
                self.assertGreaterEqual(halt - age, elder)
                elder = halt - age
                wide += len(near) < len(steps)
        self.assertGreater(wide, 50)


class TestWhatFollows(unittest.TestCase):
    def drawn(self, seed, many):
        """NETS, STATES of them whatever is said in it, wires, most and age."""
        rng = random.Random(seed)
        for trial in range(many):
            net = random_net(rng)
            state = random_state(rng, net)
            up, wires = random_up(rng, net)
            yield net, state, wires, rng.randint(0, 6), rng.randint(0, 4)

    def test_no_ghost_behind_most_and_age_and_one(self):
        haunted = 0
        for net, state, wires, most, age in self.drawn(67, 400):
            haunted += ghosts_of(net, state, wires) != ()
            behind = state_behind(net, state, most + age + 1, wires, most=most, age=age)
            self.assertEqual(ghosts_of(net, behind, wires), ())
            self.assertEqual(ghosts_of(net, state_round(net, behind, wires, most=most, age=age), wires), ())
        self.assertGreater(haunted, 200)

    def test_behind_halt_the_bests_of_the_tree_paper(self):
        for net, state, wires, most, age in self.drawn(68, 400):
            up = up_of(state)
            halt = rounds_to_halt(net, up, wires, most=most, age=age)
            behind = state_behind(net, state, halt, wires, most=most, age=age)
            for more in range(3):
                bests = {row[0]: row[1] for row in behind}
                for name, key, steps, who in tree_paper(net, up, wires):
                    if steps <= most:
                        self.assertEqual(bests[name], (key, steps, who))
                behind = state_round(net, behind, wires, most=most, age=age)

    def test_no_ring_and_one_leader_in_pieces_no_wider_than_most(self):
        rings = settled = 0
        for net, state, wires, most, age in self.drawn(69, 400):
            up = up_of(state)
            rings += follow_ring(follows_of(state)) is not None
            halt = rounds_to_halt(net, up, wires, most=most, age=age)
            behind = state_behind(net, state, halt, wires, most=most, age=age)
            steps = {row[0]: row[2] for row in tree_paper(net, up, wires)}
            follows = dict(follows_of(behind))
            for piece in pieces_of(net, up, wires):
                if max([steps[name] for name in piece]) <= most:
                    inside = tuple(sorted([(name, follows[name]) for name in piece if name in follows]))
                    self.assertIsNone(follow_ring(inside))
                    self.assertEqual(len([name for name in leaders_of(behind) if name in piece]), 1)
                    self.assertEqual(len(inside), len(piece) - 1)
                    settled += len(piece) > 1
        self.assertGreater(rings, 50)
        self.assertGreater(settled, 80)

    def test_nothing_less_than_halt_would_do_for_all(self):
        # Behind one ROUND fewer some BEST is another one still, in some NET.
        short = 0
        for net, state, wires, most, age in self.drawn(70, 400):
            up = up_of(state)
            halt = rounds_to_halt(net, up, wires, most=most, age=age)
            behind = state_behind(net, state, max(0, halt - most - 2), wires, most=most, age=age)
            bests = {row[0]: row[1] for row in behind}
            short += any([bests[row[0]] != row[1:] for row in tree_paper(net, up, wires) if row[2] <= most])
        self.assertGreater(short, 10)

    def test_two_runs_have_the_same_bests(self):
        rng = random.Random(71)
        for trial in range(60):
            net = random_net(rng)
            up, wires = random_up(rng, net)
            most, age = rng.randint(0, 8), rng.randint(0, 4)
            runs = [self.led(rng, net, up, wires, most, age) for turn in range(2)]
            for turn in range(rounds_to_halt(net, up, wires, most=most, age=age)):
                for run in runs:
                    run.go_round()
            paper = tree_paper(net, up, wires)
            steps = {row[0]: row[2] for row in paper}
            for piece in pieces_of(net, up, wires):
                if max([steps[name] for name in piece]) <= most:
                    for name in piece:
                        self.assertEqual(runs[0].best_of(name), runs[1].best_of(name))

    def led(self, rng, net, up, wires, most, age):
        """A RUN in which much was turned, and which has these members and wires up now."""
        run = NetRun(net, most=most, age=age)
        for turn in range(rng.randint(0, 20)):
            if net[0]:
                run.set_up(rng.choice(net[0])[0], rng.random() < 0.7)
            if net[1]:
                run.set_wire(*rng.choice(net[1]), rng.random() < 0.7)
            run.go_round()
        for member in net[0]:
            run.set_up(member[0], member[0] in up)
        for wire in net[1]:
            run.set_wire(*wire, wire in wires)
        self.assertEqual(run.wires_now(), wires)
        return run

    def test_members_further_away_than_most(self):
        up = ("a", "b", "c", "d", "e")
        behind = state_behind(ROW, first_state(ROW), rounds_to_halt(ROW, up, ROW[1], most=2), most=2)
        bests = [row[1] for row in behind]
        self.assertEqual(bests[2:], [((0, 0, "e"), 2, "d"), ((0, 0, "e"), 1, "e"), ((0, 0, "e"), 0, "e")])
        self.assertEqual(bests[:2], [((1, 0, "a"), 0, "a"), ((1, 0, "a"), 1, "a")])


if __name__ == "__main__":
    unittest.main()
