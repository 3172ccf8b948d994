"""[8], [54], [55]: NETS, STATES, members put up or down."""

import itertools
import random
import unittest

from ledclocks.errors import LackError, NoHouse
from ledclocks.nets import first_state, is_net, is_state, state_up
from tests.net_things import only_tuples, random_net, random_state
from tests.things import bent, odd_things

NET = ((("ann", 1, 0), ("bo", 0, 2), ("cy", 0, 1)), (("ann", "bo"), ("bo", "cy")))
FIRST = (("ann", ((1, 0, "ann"), 0, "ann"), ()), ("bo", ((0, 2, "bo"), 0, "bo"), ()),
         ("cy", ((0, 1, "cy"), 0, "cy"), ()))
BO_KEY = (0, 2, "bo")
SAID = (("ann", (BO_KEY, 1, "bo"), (("bo", BO_KEY, 0, 0),)),
        ("bo", (BO_KEY, 0, "bo"), (("ann", (1, 0, "ann"), 0, 2), ("cy", (9, 9, "ghost"), 77, 0))), ("cy", None, ()))


class TestIsNet(unittest.TestCase):
    def check(self, thing, truth):
        self.assertIs(is_net(thing), truth, thing)

    def test_plain_ones(self):
        for thing in (NET, ((), ()), ((("ann", 0, 0),), ()), (NET[0], ()), ((("a", 10 ** 50, 0), ("b", 0, 0)), ())):
            self.check(thing, True)

    def test_all_made_ones(self):
        rng = random.Random(54)
        for trial in range(60):
            self.check(random_net(rng), True)

    def test_beyond_the_bounds(self):
        names = [one + other for one in "abcdefghij" for other in "klmnopqrst"]
        members = tuple([(name, 7, 7) for name in names])
        wires = tuple([(one, other) for one in names[:10] for other in names if one < other])
        self.check((members, wires), True)

    def test_members_rise(self):
        for members in itertools.permutations(NET[0]):
            self.check((members, ()), members == NET[0])
        self.check((NET[0][:1] + NET[0][:1], ()), False)
        self.check(((("ann", 0, 0), ("ann", 0, 1)), ()), False)

    def test_numbers_from_nought_on(self):
        for number in (-1, -(10 ** 20), True, False, None, "1", (1,), [1], (1, 1)):
            self.check(((("ann", number, 0),), ()), False)
            self.check(((("ann", 0, number),), ()), False)

    def test_names(self):
        for name in ("", "Ann", "abcdefghi", "an n", None, 1, True, ["ann"], ("ann",)):
            self.check((((name, 0, 0),), ()), False)

    def test_wires(self):
        for wires, truth in ((("ann", "bo"), False), ((("bo", "ann"),), False), ((("ann", "ann"),), False),
                             ((("ann", "cy"),), True), ((("ann", "dee"),), False), ((("a", "ann"),), False),
                             ((("bo", "cy"), ("ann", "bo")), False), ((("ann", "bo"), ("ann", "bo")), False),
                             ((("ann", "bo"), ("ann", "cy"), ("bo", "cy")), True),
                             ((("ann", "cy"), ("ann", "bo")), False), ((("ann", "bo", "cy"),), False),
                             ((("ann",),), False), ((["ann", "bo"],), False), ([("ann", "bo")], False),
                             (("annbo",), False), (((),), False), ("", False), (None, False)):
            self.check((NET[0], wires), truth)

    def test_other_shapes(self):
        for thing in odd_things():
            self.check(thing, thing in (((), ()), ((("ann", 0, 0),), ())) and only_tuples(thing))
            self.check((NET[0], thing), thing == () and type(thing) is tuple)
            self.check((NET[0] + (thing,), NET[1]), False)
            self.check((NET[0], NET[1] + (thing,)), False)
            self.check((thing, NET[1]), False)
        self.check(NET + ((),), False)
        self.check(NET[::-1], False)

    def test_bent_at_any_place(self):
        # Without its last wire it is a NET still.
        for thing in bent(NET):
            self.check(thing, thing == (NET[0], NET[1][:1]))

    def test_by_name(self):
        self.assertIs(is_net(thing=NET), True)


class TestIsState(unittest.TestCase):
    def check(self, thing, truth, net=NET):
        self.assertIs(is_state(net, thing), truth, thing)

    def test_plain_ones(self):
        for thing in (FIRST, SAID, (("ann", None, ()), ("bo", None, ()), ("cy", None, ()))):
            self.check(thing, True)
        self.check((), True, ((), ()))
        self.check(((),), False, ((), ()))

    def test_all_made_ones(self):
        rng = random.Random(55)
        for trial in range(150):
            net = random_net(rng)
            self.check(random_state(rng, net), True, net)

    def test_a_row_for_each_member_as_they_stand(self):
        self.check(FIRST[:2], False)
        self.check(FIRST + FIRST[2:], False)
        self.check(FIRST[1:], False)
        self.check((), False)
        self.check(list(FIRST), False)
        for rows in itertools.permutations(FIRST):
            self.check(rows, rows == FIRST)
        self.check((FIRST[0], FIRST[1], ("dee",) + FIRST[2][1:]), False)
        self.check(FIRST, False, (NET[0][:2], ()))

    def row(self, *rest):
        return (("ann",) + rest, FIRST[1], FIRST[2])

    def test_one_that_isnt_up(self):
        self.check(self.row(None, ()), True)
        for heard in ((("bo", BO_KEY, 0, 0),), [], None, "", 0, False, ((),)):
            self.check(self.row(None, heard), False)

    def test_the_best(self):
        for best, truth in (((BO_KEY, 0, "bo"), True), (((5, 6, "ghost"), 10 ** 40, "cy"), True),
                            ((BO_KEY, 0, "ann"), True), ((BO_KEY, 0, "dee"), False), ((BO_KEY, -1, "bo"), False),
                            ((BO_KEY, True, "bo"), False), ((BO_KEY, 0, ["bo"]), False), ((BO_KEY, 0), False),
                            ((BO_KEY, 0, "bo", 0), False), ([BO_KEY, 0, "bo"], False), ((list(BO_KEY), 0, "bo"), False),
                            (((0, 2), 0, "bo"), False), (((0, 2, "bo", 0), 0, "bo"), False),
                            (((-1, 2, "bo"), 0, "bo"), False), (((0, -2, "bo"), 0, "bo"), False),
                            (((False, 2, "bo"), 0, "bo"), False), (((0, True, "bo"), 0, "bo"), False),
                            (((0, 2, "Bo"), 0, "bo"), False), (((0, 2, None), 0, "bo"), False),
                            (((0, 2, "bo"), None, "bo"), False), ((), False), (False, False), (0, False)):
            self.check(self.row(best, ()), truth)

    def test_what_was_heard(self):
        best = FIRST[0][1]
        for heard, truth in (((("bo", BO_KEY, 0, 0),), True), ((("bo", (3, 3, "ghost"), 10 ** 40, 10 ** 40),), True),
                             ((("cy", BO_KEY, 0, 0),), False), ((("ann", BO_KEY, 0, 0),), False),
                             ((("dee", BO_KEY, 0, 0),), False), ((("bo", BO_KEY, 0),), False),
                             ((("bo", BO_KEY, 0, 0, 0),), False), ((["bo", BO_KEY, 0, 0],), False),
                             ([("bo", BO_KEY, 0, 0)], False), ((("bo", BO_KEY, -1, 0),), False),
                             ((("bo", BO_KEY, 0, -1),), False), ((("bo", BO_KEY, True, 0),), False),
                             ((("bo", BO_KEY, 0, False),), False), ((("bo", BO_KEY, 0, None),), False),
                             ((("bo", (0, 2), 0, 0),), False), ((("bo", (0, -2, "bo"), 0, 0),), False),
                             ((("bo", BO_KEY, 0, 0), ("bo", BO_KEY, 0, 0)), False),
                             ((("bo", BO_KEY, 0, 0), ("bo", BO_KEY, 0, 1)), False), (None, False), ("", False),
                             (((["bo"], BO_KEY, 0, 0),), False)):
            self.check(self.row(best, heard), truth)

    def test_heard_rises(self):
        one, other = ("ann", BO_KEY, 9, 9), ("cy", BO_KEY, 0, 0)
        self.check((FIRST[0], ("bo", FIRST[1][1], (one, other)), FIRST[2]), True)
        self.check((FIRST[0], ("bo", FIRST[1][1], (other, one)), FIRST[2]), False)
        self.check((FIRST[0], ("bo", FIRST[1][1], (other, other)), FIRST[2]), False)
        self.check((FIRST[0], ("bo", FIRST[1][1], (other,)), FIRST[2]), True)

    def test_other_shapes(self):
        for thing in odd_things():
            self.check(thing, False)
            self.check((thing,) + FIRST[1:], False)
            self.check(self.row(thing, ()), thing is None)
            self.check(self.row(FIRST[0][1], thing), thing == () and type(thing) is tuple)
            self.check(self.row(FIRST[0][1], (thing,)), False)

    def test_bent_at_any_place(self):
        whole = [(SAID[0][:2] + ((),),) + SAID[1:], (SAID[0], SAID[1][:2] + (SAID[1][2][:1],), SAID[2])]
        for thing in bent(SAID):
            self.check(thing, thing in whole)

    def test_by_name(self):
        self.assertIs(is_state(thing=FIRST, net=NET), True)


class TestFirstState(unittest.TestCase):
    def test_told_ones(self):
        self.assertEqual(first_state(NET), FIRST)
        self.assertEqual(first_state(net=((), ())), ())
        self.assertTrue(only_tuples(first_state(NET)))

    def test_it_is_a_state(self):
        rng = random.Random(56)
        for trial in range(60):
            net = random_net(rng)
            told = first_state(net)
            self.assertIs(is_state(net, told), True)
            self.assertEqual(told, tuple([(n, ((p, c, n), 0, n), ()) for n, p, c in net[0]]))


class TestStateUp(unittest.TestCase):
    def test_put_down(self):
        self.assertEqual(state_up(NET, SAID, "bo", False), (SAID[0], ("bo", None, ()), SAID[2]))

    def test_put_up(self):
        self.assertEqual(state_up(NET, SAID, "cy", True), (SAID[0], SAID[1], FIRST[2]))

    def test_what_turns_nothing(self):
        self.assertEqual(state_up(NET, SAID, "ann", True), SAID)
        self.assertEqual(state_up(NET, SAID, "bo", True), SAID)
        self.assertEqual(state_up(NET, SAID, "cy", False), SAID)

    def test_down_and_up_again_forgets(self):
        down = state_up(NET, SAID, "bo", False)
        self.assertEqual(state_up(NET, down, "bo", True), (SAID[0], FIRST[1], SAID[2]))

    def test_strange_names(self):
        for name in ("dee", "a", "annx", "zzzzzzzz"):
            for truth in (True, False):
                with self.assertRaises(LackError) as caught:
                    state_up(NET, SAID, name, truth)
                self.assertIs(type(caught.exception), NoHouse)
                self.assertIs(caught.exception.name, name)
        with self.assertRaises(NoHouse):
            state_up(((), ()), (), "ann", True)

    def test_made_ones(self):
        rng = random.Random(57)
        for trial in range(100):
            net = random_net(rng, rng.randint(1, 8))
            state = random_state(rng, net)
            at = rng.randrange(len(state))
            for truth in (True, False):
                told = state_up(net, state, net[0][at][0], truth)
                self.assertTrue(only_tuples(told))
                self.assertEqual(told[:at] + told[at + 1:], state[:at] + state[at + 1:])
                if (state[at][1] is not None) is truth:
                    self.assertEqual(told[at], state[at])
                else:
                    self.assertEqual(told[at], first_state(net)[at] if truth else (net[0][at][0], None, ()))

    def test_by_name(self):
        self.assertEqual(state_up(truth=True, name="cy", state=SAID, net=NET), SAID[:2] + FIRST[2:])


if __name__ == "__main__":
    unittest.main()
