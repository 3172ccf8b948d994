"""[8], [56]: ROUNDS."""

import random
import unittest

from ledclocks.net_rounds import state_behind, state_round
from ledclocks.nets import first_state, is_state, state_up
from tests.net_things import only_tuples, oracle_round, random_net, random_state, random_wires

NET = ((("ann", 1, 0), ("bo", 0, 2), ("cy", 0, 1)), (("ann", "bo"), ("bo", "cy")))
FIRST = first_state(NET)
ANN, BO, CY = (1, 0, "ann"), (0, 2, "bo"), (0, 1, "cy")


class TestToldOnes(unittest.TestCase):
    def test_one_round(self):
        self.assertEqual(state_round(NET, FIRST), (
            ("ann", (BO, 1, "bo"), (("bo", BO, 0, 0),)),
            ("bo", (CY, 1, "cy"), (("ann", ANN, 0, 0), ("cy", CY, 0, 0))),
            ("cy", (CY, 0, "cy"), (("bo", BO, 0, 0),))))

    def test_two_rounds(self):
        told = state_round(NET, state_round(NET, FIRST))
        self.assertEqual(told, (
            ("ann", (CY, 2, "bo"), (("bo", CY, 1, 0),)),
            ("bo", (CY, 1, "cy"), (("ann", BO, 1, 0), ("cy", CY, 0, 0))),
            ("cy", (CY, 0, "cy"), (("bo", CY, 1, 0),))))
        self.assertEqual(state_behind(NET, FIRST, 2), told)

    def test_one_that_is_down_neither_says_nor_hears(self):
        state = state_up(NET, FIRST, "bo", False)
        self.assertEqual(state_round(NET, state), state)

    def test_no_wires_and_none_of_all(self):
        self.assertEqual(state_round(NET, FIRST, ()), FIRST)
        self.assertEqual(state_round(NET, FIRST, None), state_round(NET, FIRST, NET[1]))
        told = state_round(NET, FIRST, (("ann", "bo"),))
        self.assertEqual([row[1] for row in told], [(BO, 1, "bo"), (BO, 0, "bo"), (CY, 0, "cy")])

    def test_what_was_heard_grows_older_and_goes(self):
        state = state_round(NET, FIRST)
        for age in range(5):
            behind = state
            for old in range(1, 7):
                behind = state_round(NET, behind, (), age=age)
                heard = (("bo", BO, 0, old),) if old <= age else ()
                best = (BO, 1, "bo") if old <= age else (ANN, 0, "ann")
                self.assertEqual(behind[0], ("ann", best, heard), (age, old))

    def test_age_left_out_is_one(self):
        state = state_round(NET, FIRST)
        one = state_round(NET, state, ())
        self.assertEqual(one[0][2], (("bo", BO, 0, 1),))
        self.assertEqual(state_round(NET, one, ()), FIRST)

    def test_what_is_said_stands_in_the_place_of_what_was(self):
        state = (("ann", (BO, 1, "bo"), (("bo", (0, 0, "ghost"), 0, 0),)),) + FIRST[1:]
        self.assertEqual(state_round(NET, state, age=4)[0], ("ann", (BO, 1, "bo"), (("bo", BO, 0, 0),)))

    def test_one_gone_is_kept_for_a_while(self):
        state = state_up(NET, state_behind(NET, FIRST, 3), "cy", False)
        told = state_round(NET, state)
        self.assertEqual(told[1], ("bo", (CY, 1, "cy"), (("ann", CY, 2, 0), ("cy", CY, 0, 1))))
        # Then what ann says of it comes back, with a step more each time.
        self.assertEqual([row[1] for row in state_round(NET, told)], [(CY, 2, "bo"), (CY, 3, "ann"), None])

    def test_most_bars_a_best_and_not_what_is_heard(self):
        for most in range(1, 10):
            for steps in range(12):
                state = (FIRST[0], ("bo", ((0, 0, "ghost"), steps, "bo"), ()), FIRST[2])
                told = state_round(NET, state, (("ann", "bo"),), most=most)
                self.assertEqual(told[0][2], (("bo", (0, 0, "ghost"), steps, 0),))
                best = ((0, 0, "ghost"), steps + 1, "bo") if steps + 1 <= most else (ANN, 0, "ann")
                self.assertEqual(told[0][1], best, (most, steps))

    def test_most_left_out_is_four(self):
        for steps, best in ((3, ((0, 0, "ghost"), 4, "bo")), (4, (ANN, 0, "ann"))):
            state = (FIRST[0], ("bo", ((0, 0, "ghost"), steps, "bo"), ()), FIRST[2])
            self.assertEqual(state_round(NET, state, (("ann", "bo"),))[0][1], best)
            self.assertEqual(state_behind(NET, state, 1, (("ann", "bo"),))[0][1], best)

    def test_a_best_is_chosen_anew(self):
        state = (("ann", ((0, 0, "ghost"), 0, "ann"), ()),) + FIRST[1:]
        self.assertEqual(state_round(NET, state, ())[0], FIRST[0])

    def test_the_least_by_key_then_steps_then_who(self):
        net = ((("ann", 5, 5), ("bo", 5, 5), ("cy", 5, 5), ("dee", 5, 5)),
               (("ann", "dee"), ("bo", "dee"), ("cy", "dee")))

        def best(*said):
            rows = [(name, saying, ()) for name, saying in zip(("ann", "bo", "cy"), said)]
            return state_round(net, tuple(rows) + (first_state(net)[3],))[3][1]

        low, high = (1, 9, "z"), (2, 0, "a")
        self.assertEqual(best((high, 0, "ann"), (low, 3, "bo"), (high, 0, "cy")), (low, 4, "bo"))
        self.assertEqual(best((low, 2, "ann"), (low, 1, "bo"), (low, 2, "cy")), (low, 2, "bo"))
        self.assertEqual(best((low, 2, "bo"), (low, 1, "bo"), (low, 1, "ann")), (low, 2, "bo"))
        self.assertEqual(best((low, 1, "dee"), (low, 1, "ann"), (low, 1, "bo")), (low, 2, "ann"))
        self.assertEqual(best((low, 4, "ann"), (high, 0, "bo"), (low, 9, "cy")), (high, 1, "bo"))

    def test_its_own_key_with_steps_is_above_its_own(self):
        state = (FIRST[0], ("bo", (ANN, 1, "ann"), ()), FIRST[2])
        self.assertEqual(state_round(NET, state, (("ann", "bo"),))[0][1], (ANN, 0, "ann"))

    def test_no_members(self):
        self.assertEqual(state_round(((), ()), ()), ())
        self.assertEqual(state_behind(((), ()), (), 5), ())

    def test_no_rounds(self):
        self.assertEqual(state_behind(NET, FIRST, 0), FIRST)

    def test_by_name(self):
        told = state_round(wires=(), state=FIRST, net=NET, age=0, most=1)
        self.assertEqual(told, FIRST)
        told = state_behind(most=1, age=0, wires=None, many=1, state=FIRST, net=NET)
        self.assertEqual(told, state_round(NET, FIRST))
        with self.assertRaises(TypeError):
            state_round(NET, FIRST, None, 4)
        with self.assertRaises(TypeError):
            state_behind(NET, FIRST, 1, None, 4)


class TestMadeOnes(unittest.TestCase):
    def test_by_the_oracle(self):
        rng = random.Random(560)
        for trial in range(400):
            net = random_net(rng)
            state = random_state(rng, net)
            wires = random_wires(rng, net)
            most, age = rng.randint(1, 9), rng.randint(0, 4)
            told = state_round(net, state, wires, most=most, age=age)
            self.assertEqual(told, oracle_round(net, state, wires, most, age))
            self.assertIs(is_state(net, told), True)
            self.assertTrue(only_tuples(told))

    def test_left_out(self):
        rng = random.Random(561)
        for trial in range(150):
            net = random_net(rng)
            state = random_state(rng, net)
            most, age = rng.randint(1, 9), rng.randint(0, 4)
            self.assertEqual(state_round(net, state), oracle_round(net, state, None, 4, 1))
            self.assertEqual(state_round(net, state, most=most), oracle_round(net, state, None, most, 1))
            self.assertEqual(state_round(net, state, age=age), oracle_round(net, state, None, 4, age))
            self.assertEqual(state_behind(net, state, 1), oracle_round(net, state, None, 4, 1))
            self.assertEqual(state_behind(net, state, 1, most=most), oracle_round(net, state, None, most, 1))
            self.assertEqual(state_behind(net, state, 1, age=age), oracle_round(net, state, None, 4, age))

    def test_none_to_six_rounds(self):
        rng = random.Random(562)
        for trial in range(100):
            net = random_net(rng)
            state = random_state(rng, net)
            wires = random_wires(rng, net)
            most, age = rng.randint(1, 9), rng.randint(0, 4)
            behind = state
            for many in range(7):
                self.assertEqual(state_behind(net, state, many, wires, most=most, age=age), behind)
                behind = oracle_round(net, behind, wires, most, age)

    def test_a_best_is_never_above_its_own_nor_its_steps_above_most(self):
        rng = random.Random(563)
        for trial in range(100):
            net = random_net(rng)
            most = rng.randint(1, 9)
            told = state_round(net, random_state(rng, net), most=most)
            for own, row in zip(first_state(net), told):
                if row[1] is not None:
                    self.assertLessEqual(row[1], own[1])
                    self.assertLessEqual(row[1][1], most)


if __name__ == "__main__":
    unittest.main()
