"""[57], [58]: a RUN."""

import random
import unittest

from ledclocks.errors import LackError, NoHouse, NoLink
from ledclocks.net_runs import NetRun
from ledclocks.nets import first_state, state_up
from tests.net_things import NAMES, only_tuples, oracle_round, random_net
from tests.things import odd_things

NET = ((("ann", 1, 0), ("bo", 0, 2), ("cy", 0, 1)), (("ann", "bo"), ("bo", "cy")))
ANN, BO, CY = (1, 0, "ann"), (0, 2, "bo"), (0, 1, "cy")


class Looked(unittest.TestCase):
    def same(self, one, other, truth):
        self.assertIs(one == other, truth)
        self.assertIs(other == one, truth)
        self.assertIs(one != other, not truth)
        self.assertIs(other != one, not truth)


class TestDeeds(Looked):
    def test_at_first(self):
        run = NetRun(NET)
        self.assertEqual(run.state_now(), first_state(NET))
        self.assertEqual(run.wires_now(), NET[1])
        self.assertEqual(len(run), 0)
        self.assertEqual(run.best_of("bo"), (BO, 0, "bo"))
        self.assertEqual(run.heard_of("bo"), ())

    def test_rounds_tell_how_many_bests_turned(self):
        run = NetRun(NET)
        for number, turned in enumerate((2, 1, 0, 0), 1):
            told = run.go_round()
            self.assertEqual((told, type(told)), (turned, int))
            self.assertEqual(len(run), number)
        self.assertEqual(run.best_of("ann"), (CY, 2, "bo"))
        self.assertEqual(run.heard_of("bo"), (("ann", CY, 2, 0), ("cy", CY, 0, 0)))

    def test_a_member_up_and_down(self):
        run = NetRun(NET)
        run.go_round()
        self.assertIsNone(run.set_up("bo", False))
        self.assertIsNone(run.best_of("bo"))
        self.assertEqual(run.heard_of("bo"), ())
        self.assertEqual(run.heard_of("ann"), (("bo", BO, 0, 0),))
        self.assertEqual(run.go_round(), 0)
        self.assertEqual(run.go_round(), 1)
        self.assertIsNone(run.set_up("bo", True))
        self.assertEqual(run.best_of("bo"), (BO, 0, "bo"))
        self.assertEqual(run.go_round(), 2)

    def test_put_up_what_is_up_turns_nothing(self):
        run, other = NetRun(NET), NetRun(NET)
        run.go_round()
        other.go_round()
        run.set_up("ann", True)
        self.same(run, other, True)
        self.assertEqual(run.best_of("ann"), (BO, 1, "bo"))

    def test_wires_either_way_about(self):
        for one, other in (("ann", "bo"), ("bo", "ann")):
            run = NetRun(NET)
            self.assertIsNone(run.set_wire(one, other, False))
            self.assertEqual(run.wires_now(), (("bo", "cy"),))
            run.set_wire(one, other, False)
            self.assertEqual(run.wires_now(), (("bo", "cy"),))
            self.assertEqual(run.go_round(), 1)
            self.assertEqual(run.best_of("ann"), (ANN, 0, "ann"))
            self.assertEqual(run.heard_of("bo"), (("cy", CY, 0, 0),))
            self.assertIsNone(run.set_wire(other, one, True))
            self.assertEqual(run.wires_now(), NET[1])
            run.set_wire(one, other, True)
            self.assertEqual(run.wires_now(), NET[1])

    def test_wires_rise_in_whatever_order_they_are_put_up(self):
        net = (NET[0], (("ann", "bo"), ("ann", "cy"), ("bo", "cy")))
        run = NetRun(net)
        for wire in net[1]:
            run.set_wire(wire[0], wire[1], False)
        self.assertEqual(run.wires_now(), ())
        run.set_wire("cy", "bo", True)
        run.set_wire("bo", "ann", True)
        self.assertEqual(run.wires_now(), (("ann", "bo"), ("bo", "cy")))
        run.set_wire("ann", "cy", True)
        self.assertEqual(run.wires_now(), net[1])
        self.assertTrue(only_tuples(run.wires_now()))

    def test_a_wire_down_is_forgotten_by_age(self):
        for age in range(5):
            run = NetRun(NET, age=age)
            run.go_round()
            run.set_wire("ann", "bo", False)
            self.assertEqual(run.heard_of("ann"), (("bo", BO, 0, 0),))
            for old in range(1, age + 1):
                run.go_round()
                self.assertEqual(run.heard_of("ann"), (("bo", BO, 0, old),))
            run.go_round()
            self.assertEqual(run.heard_of("ann"), ())

    def test_most_and_age_left_out(self):
        names = ["a", "b", "c", "d", "e", "f", "g"]
        net = (tuple([(name, 0, 0) for name in names]), tuple(zip(names, names[1:])))
        for run, steps in ((NetRun(net), 4), (NetRun(net, most=2), 2), (NetRun(net, most=9), 6)):
            for number in range(12):
                run.go_round()
            self.assertEqual(max([row[1][1] for row in run.state_now()]), steps)
        run = NetRun(NET)
        run.go_round()
        run.set_wire("ann", "bo", False)
        run.go_round()
        self.assertEqual(run.heard_of("ann"), (("bo", BO, 0, 1),))
        run.go_round()
        self.assertEqual(run.heard_of("ann"), ())

    def test_a_wire_up_and_down_ahead_of_any_round_turns_nothing(self):
        run, other = NetRun(NET), NetRun(NET)
        run.set_wire("ann", "bo", False)
        other.set_wire("ann", "bo", False)
        run.set_wire("ann", "bo", True)
        run.set_wire("ann", "bo", False)
        self.same(run, other, True)
        self.assertEqual(run.go_round(), other.go_round())
        self.same(run, other, True)

    def test_by_name(self):
        run = NetRun(net=NET, age=0, most=9)
        run.set_up(truth=False, name="cy")
        run.set_wire(truth=False, other="ann", one="bo")
        self.assertIsNone(run.best_of(name="cy"))
        self.assertEqual(run.heard_of(name="cy"), ())
        with self.assertRaises(TypeError):
            NetRun(NET, 4)

    def test_over_any_row_of_deeds(self):
        rng = random.Random(58)
        for trial in range(80):
            net = random_net(rng, rng.randint(1, 8))
            most, age = rng.randint(1, 9), rng.randint(0, 4)
            run = NetRun(net, most=most, age=age)
            state, wires, rounds = first_state(net), net[1], 0
            for deed in range(rng.randint(0, 30)):
                choice = rng.random()
                if choice < 0.2:
                    name, truth = rng.choice(net[0])[0], rng.random() < 0.6
                    run.set_up(name, truth)
                    state = state_up(net, state, name, truth)
                elif choice < 0.4 and net[1]:
                    wire, truth = rng.choice(net[1]), rng.random() < 0.6
                    run.set_wire(*rng.sample(wire, 2), truth)
                    wires = tuple(sorted(set(wires) - {wire} | ({wire} if truth else set())))
                else:
                    behind = oracle_round(net, state, wires, most, age)
                    turned = len([k for k in range(len(state)) if state[k][1] != behind[k][1]])
                    self.assertEqual(run.go_round(), turned)
                    state, rounds = behind, rounds + 1
                self.assertEqual(run.state_now(), state)
                self.assertEqual(run.wires_now(), wires)
                self.assertEqual(len(run), rounds)
                for name, best, heard in state:
                    self.assertEqual((run.best_of(name), run.heard_of(name)), (best, heard))
            self.assertTrue(only_tuples(run.state_now()))


class TestRefusals(Looked):
    def setUp(self):
        self.run_now, self.twin = NetRun(NET), NetRun(NET)
        for run in (self.run_now, self.twin):
            run.go_round()
            run.set_wire("ann", "bo", False)
            run.set_up("cy", False)

    def refused(self, refusal, call, *given):
        with self.assertRaises(LackError) as caught:
            call(*given)
        self.assertIs(type(caught.exception), refusal)
        self.same(self.run_now, self.twin, True)
        self.assertEqual(len(self.run_now), 1)
        self.assertEqual(self.run_now.state_now(), self.twin.state_now())
        self.assertEqual(self.run_now.wires_now(), (("bo", "cy"),))
        return caught.exception

    def test_strange_names(self):
        for name in ("dee", "a", "annx", "zzzzzzzz"):
            for truth in (True, False):
                self.assertIs(self.refused(NoHouse, self.run_now.set_up, name, truth).name, name)
            self.assertIs(self.refused(NoHouse, self.run_now.best_of, name).name, name)
            self.assertIs(self.refused(NoHouse, self.run_now.heard_of, name).name, name)

    def test_strange_wires_with_the_two_as_handed_in(self):
        for one, other in (("ann", "cy"), ("cy", "ann"), ("ann", "ann"), ("ann", "dee"), ("dee", "ann"), ("x", "y"),
                           ("y", "x"), ("bo", "bo")):
            for truth in (True, False):
                told = self.refused(NoLink, self.run_now.set_wire, one, other, truth).number
                self.assertEqual((told, type(told)), ((one, other), tuple))
                self.assertIs(told[0], one)
                self.assertIs(told[1], other)

    def test_an_empty_net(self):
        run = NetRun(((), ()))
        self.assertEqual((run.state_now(), run.wires_now(), run.go_round(), len(run)), ((), (), 0, 1))
        for name in NAMES:
            with self.assertRaises(NoHouse):
                run.set_up(name, True)


class TestEquality(Looked):
    def test_of_alike_ones(self):
        one, other = NetRun(NET), NetRun(NET)
        self.same(one, one, True)
        self.same(one, other, True)
        self.same(one, NetRun(NET, most=4, age=1), True)

    def test_by_state_and_wires(self):
        one, other = NetRun(NET), NetRun(NET)
        one.go_round()
        self.same(one, other, False)
        other.go_round()
        self.same(one, other, True)
        one.set_wire("ann", "bo", False)
        self.same(one, other, False)
        other.set_wire("bo", "ann", False)
        self.same(one, other, True)
        one.set_up("cy", False)
        self.same(one, other, False)
        other.set_up("cy", False)
        self.same(one, other, True)

    def test_not_by_how_many_rounds(self):
        one, other = NetRun(NET), NetRun(NET)
        for number in range(5):
            one.go_round()
        for number in range(8):
            other.go_round()
        self.assertNotEqual(len(one), len(other))
        self.same(one, other, True)

    def test_by_what_was_heard_alone(self):
        one, other = NetRun(NET), NetRun(NET)
        for run in (one, other):
            for number in range(4):
                run.go_round()
            run.set_wire("ann", "bo", False)
        one.go_round()
        self.assertEqual([row[1] for row in one.state_now()], [row[1] for row in other.state_now()])
        self.same(one, other, False)

    def test_by_net_most_and_age(self):
        self.same(NetRun(NET), NetRun(NET, most=5), False)
        self.same(NetRun(NET), NetRun(NET, age=2), False)
        self.same(NetRun(NET), NetRun((NET[0], ())), False)
        self.same(NetRun(NET), NetRun((NET[0][:2], NET[1][:1])), False)
        one, other = NetRun(NET), NetRun((NET[0], NET[1][:1]))
        one.set_wire("bo", "cy", False)
        self.assertEqual((one.state_now(), one.wires_now()), (other.state_now(), other.wires_now()))
        self.same(one, other, False)

    def test_no_other_thing_is_equal_to_one(self):
        run = NetRun(NET)
        for thing in odd_things() + [NET, first_state(NET), NET[1], len(run), (NET, 4, 1, first_state(NET), NET[1])]:
            self.same(run, thing, False)

    def test_methods_stand_in_the_class_itself(self):
        for name in ("set_up", "set_wire", "go_round", "best_of", "heard_of", "state_now", "wires_now", "__len__",
                     "__eq__"):
            self.assertIn(name, vars(NetRun))


if __name__ == "__main__":
    unittest.main()
