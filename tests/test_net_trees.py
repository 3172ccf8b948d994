"""[59], [60]: PIECES and TREE PAPERS."""

import random
import unittest

from ledclocks.net_trees import pieces_of, tree_paper
from tests.net_things import NAMES, key_of, only_tuples, oracle_pieces, oracle_tree, random_net, random_up

# Two ways of two wires from dee to ann, by bo and by cy; eve hangs on dee, fay is alone.
MEMBERS = (("ann", 0, 1), ("bo", 1, 0), ("cy", 1, 0), ("dee", 0, 2), ("eve", 3, 0), ("fay", 0, 0))
WIRES = (("ann", "bo"), ("ann", "cy"), ("bo", "dee"), ("cy", "dee"), ("dee", "eve"))
NET = (MEMBERS, WIRES)
UP = ("ann", "bo", "cy", "dee", "eve", "fay")
ANN, BO, CY, DEE, EVE, FAY = [key_of(member) for member in MEMBERS]


class TestPieces(unittest.TestCase):
    def told(self, up, wires, pieces):
        told = pieces_of(NET, up, wires)
        self.assertEqual(told, pieces)
        self.assertTrue(only_tuples(told))

    def test_all_up(self):
        self.told(UP, WIRES, (("ann", "bo", "cy", "dee", "eve"), ("fay",)))

    def test_members_down(self):
        self.told(("ann", "cy", "dee", "eve"), WIRES, (("ann", "cy", "dee", "eve"),))
        self.told(("ann", "dee", "eve", "fay"), WIRES, (("ann",), ("dee", "eve"), ("fay",)))
        self.told(("bo", "cy"), WIRES, (("bo",), ("cy",)))

    def test_wires_down(self):
        self.told(UP, (), (("ann",), ("bo",), ("cy",), ("dee",), ("eve",), ("fay",)))
        self.told(UP, (("ann", "cy"), ("bo", "dee")), (("ann", "cy"), ("bo", "dee"), ("eve",), ("fay",)))
        self.told(UP, (("ann", "bo"), ("cy", "dee"), ("dee", "eve")), (("ann", "bo"), ("cy", "dee", "eve"), ("fay",)))

    def test_nobody_up(self):
        for wires in (WIRES, ()):
            self.told((), wires, ())
        self.assertEqual(pieces_of(((), ()), (), ()), ())

    def test_by_their_least_names(self):
        net = (tuple([(name, 0, 0) for name in NAMES]), (("a", "gil"), ("ann", "fay"), ("bo", "eve"), ("cy", "dee")))
        self.assertEqual(pieces_of(net, NAMES, net[1]), (("a", "gil"), ("ann", "fay"), ("bo", "eve"), ("cy", "dee")))

    def test_by_the_oracle(self):
        rng = random.Random(59)
        many = []
        for trial in range(400):
            net = random_net(rng)
            up, wires = random_up(rng, net)
            told = pieces_of(net, up, wires)
            self.assertEqual(told, oracle_pieces(up, wires))
            self.assertEqual(sorted([name for piece in told for name in piece]), list(up))
            self.assertTrue(only_tuples(told))
            many.append(len(told))
        self.assertGreater(min(many.count(0), many.count(1), many.count(2), many.count(3)), 20)

    def test_by_name(self):
        self.assertEqual(pieces_of(wires=WIRES, up=("ann",), net=NET), (("ann",),))
        self.assertEqual(tree_paper(wires=WIRES, up=("ann",), net=NET), (("ann", ANN, 0, "ann"),))


class TestTree(unittest.TestCase):
    def told(self, up, wires, paper):
        told = tree_paper(NET, up, wires)
        self.assertEqual(told, paper)
        self.assertTrue(only_tuples(told))

    def test_all_up_who_the_least_name_of_two(self):
        self.told(UP, WIRES, (("ann", ANN, 0, "ann"), ("bo", ANN, 1, "ann"), ("cy", ANN, 1, "ann"),
                              ("dee", ANN, 2, "bo"), ("eve", ANN, 3, "dee"), ("fay", FAY, 0, "fay")))

    def test_members_and_wires_down(self):
        self.told(("ann", "cy", "dee"), WIRES, (("ann", ANN, 0, "ann"), ("cy", ANN, 1, "ann"), ("dee", ANN, 2, "cy")))
        self.told(("bo", "dee", "eve"), WIRES, (("bo", DEE, 1, "dee"), ("dee", DEE, 0, "dee"), ("eve", DEE, 1, "dee")))
        self.told(("ann", "bo", "cy"), WIRES[2:], (("ann", ANN, 0, "ann"), ("bo", BO, 0, "bo"), ("cy", CY, 0, "cy")))
        self.told(UP[:5], WIRES[:1] + WIRES[2:], (("ann", ANN, 0, "ann"), ("bo", ANN, 1, "ann"), ("cy", ANN, 3, "dee"),
                                                  ("dee", ANN, 2, "bo"), ("eve", ANN, 3, "dee")))

    def test_nobody_up_and_alone(self):
        self.told((), WIRES, ())
        self.told(("eve",), WIRES, (("eve", EVE, 0, "eve"),))
        self.assertEqual(tree_paper(((), ()), (), ()), ())

    def test_the_least_key_by_priority_then_class_then_name(self):
        wire = (("ann", "bo"),)
        for ann, bo, leader in (((1, 0), (0, 9), "bo"), ((0, 9), (1, 0), "ann"), ((1, 2), (1, 1), "bo"),
                                ((1, 1), (1, 2), "ann"), ((1, 1), (1, 1), "ann")):
            net = ((("ann",) + ann, ("bo",) + bo), wire)
            self.assertEqual([row[1][2] for row in tree_paper(net, ("ann", "bo"), wire)], [leader, leader])

    def test_by_the_oracle(self):
        rng = random.Random(60)
        steps, several = [], 0
        for trial in range(500):
            net = random_net(rng)
            up, wires = random_up(rng, net)
            told = tree_paper(net, up, wires)
            self.assertEqual(told, oracle_tree(net, up, wires))
            self.assertTrue(only_tuples(told))
            steps.extend([row[2] for row in told])
            several += len([row for row in told if self.as_near(wires, told, row) > 1])
        self.assertGreater(min([steps.count(k) for k in (0, 1, 2, 3)]), 20)
        self.assertGreater(several, 15)

    def as_near(self, wires, paper, row):
        """How many there are that a row's who might be."""
        near = [end for wire in wires if row[0] in wire for end in wire]
        return len([other for other in paper if other[0] in near and other[2] == row[2] - 1])


if __name__ == "__main__":
    unittest.main()
