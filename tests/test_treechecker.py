"""[60], [61], [62]: TREE PAPERS looked at."""

import random
import unittest

from ledclocks.errors import NoPaper
from ledclocks.net_trees import pieces_of, tree_paper
from ledclocks.treechecker import lets_tree
from tests.net_things import key_of, oracle_steps_apart, random_net, random_up
from tests.things import bent, bent_twice, odd_things, refusal_of

# Two ways of two wires from dee to ann, by bo and by cy; eve hangs on dee, fay is alone.
MEMBERS = (("ann", 0, 1), ("bo", 1, 0), ("cy", 1, 0), ("dee", 0, 2), ("eve", 3, 0), ("fay", 0, 0))
WIRES = (("ann", "bo"), ("ann", "cy"), ("bo", "dee"), ("cy", "dee"), ("dee", "eve"))
NET = (MEMBERS, WIRES)
UP = ("ann", "bo", "cy", "dee", "eve", "fay")
ANN, BO, CY, DEE, EVE, FAY = [key_of(member) for member in MEMBERS]
PAPER = (("ann", ANN, 0, "ann"), ("bo", ANN, 1, "ann"), ("cy", ANN, 1, "ann"), ("dee", ANN, 2, "bo"),
         ("eve", ANN, 3, "dee"), ("fay", FAY, 0, "fay"))


def with_row(k, row, paper=PAPER):
    return paper[:k] + (row,) + paper[k + 1:]


def plain_row(thing):
    if type(thing) is not tuple or len(thing) != 4:
        return False
    name, key, steps, who = thing
    if type(key) is not tuple or [type(part) for part in key] != [int, int, str]:
        return False
    return type(name) is str and type(steps) is int and steps >= 0 and type(who) is str


def oracle(net, up, wires, thing):
    """How many lead, or the word and the place by [61]."""
    if type(thing) is not tuple or not all([plain_row(row) for row in thing]):
        return ("shape", -1)
    if tuple([row[0] for row in thing]) != up:
        return ("many", -1)
    live = [wire for wire in wires if wire[0] in up and wire[1] in up]
    keys = {member[0]: key_of(member) for member in net[0]}
    for k, (name, key, steps, who) in enumerate(thing):
        if key > keys[name]:
            return ("key", k)
        if steps == 0 and (key != keys[name] or who != name):
            return ("lead", k)
        nearer = [other for other in thing if other[0] == who and other[1:3] == (key, steps - 1)]
        if steps > 0 and (not nearer or not ((name, who) in live or (who, name) in live)):
            return ("who", k)
    for k in range(len(thing)):
        for n in range(k + 1, len(thing)):
            if (thing[k][0], thing[n][0]) in live:
                if thing[k][1] != thing[n][1] or abs(thing[k][2] - thing[n][2]) > 1:
                    return ("near", (k, n))
    return len([row for row in thing if row[2] == 0])


class TestLetsTree(unittest.TestCase):
    def check(self, net, up, wires, thing):
        wanted = oracle(net, up, wires, thing)
        if isinstance(wanted, int):
            told = lets_tree(net, up, wires, thing)
            self.assertEqual((told, type(told)), (wanted, int))
            return "fits"
        self.assertEqual(repr(refusal_of(lets_tree, net, up, wires, thing)), repr((NoPaper,) + wanted), thing)
        return wanted[0]

    def refused(self, thing, word, at, up=UP, wires=WIRES):
        self.assertEqual(repr(refusal_of(lets_tree, NET, up, wires, thing)), repr((NoPaper, word, at)))

    def test_told_and_with_another_who_as_near(self):
        self.assertEqual(repr(lets_tree(NET, UP, WIRES, PAPER)), "2")
        self.assertEqual(lets_tree(NET, UP, WIRES, with_row(3, ("dee", ANN, 2, "cy"))), 2)
        self.assertEqual(repr(lets_tree(NET, (), WIRES, ())), "0")
        self.assertEqual(lets_tree(((), ()), (), (), ()), 0)
        alone = tuple([(name, key, 0, name) for name, key in zip(UP, (ANN, BO, CY, DEE, EVE, FAY))])
        self.assertEqual(lets_tree(NET, UP, (), alone), 6)

    def test_shape(self):
        for thing in (list(PAPER), None, (None,), (PAPER,), with_row(0, ["ann", ANN, 0, "ann"]), 0, "ann",
                      with_row(0, ("ann", list(ANN), 0, "ann")), with_row(0, ("ann", ANN, False, "ann")),
                      with_row(0, ("ann", ANN, -1, "ann")), with_row(0, ("ann", ANN, 0, None)),
                      with_row(0, ("ann", (False, 1, "ann"), 0, "ann")),
                      with_row(0, ("ann", (0, True, "ann"), 0, "ann")),
                      with_row(0, ("ann", (0, 1, 0), 0, "ann")), with_row(0, ("ann", (0, 1), 0, "ann")),
                      with_row(0, (0, ANN, 0, "ann")), with_row(0, ("ann", ANN, 0)),
                      with_row(5, ("fay", FAY, 0, "fay", 0)),
                      with_row(5, ("fay", FAY + (0,), 0, "fay")), with_row(5, ())):
            self.refused(thing, "shape", -1)

    def test_many(self):
        for thing in ((), PAPER[:5], PAPER[1:], PAPER[::-1], PAPER + PAPER[5:], with_row(5, ("zed", FAY, 0, "zed")),
                      with_row(5, ("Fay !", FAY, 0, "fay")), with_row(1, PAPER[2], with_row(2, PAPER[1]))):
            self.refused(thing, "many", -1)
        self.refused(PAPER, "many", -1, up=UP[:5])
        self.refused(PAPER, "many", -1, up=())

    def test_key_lead_who(self):
        for k, row, word in ((0, ("ann", BO, 0, "ann"), "key"), (0, ("ann", (0, 1, "anna"), 0, "ann"), "key"),
                             (5, ("fay", (0, 1, "a"), 3, "zed"), "key"), (0, ("ann", FAY, 0, "ann"), "lead"),
                             (0, ("ann", ANN, 0, "bo"), "lead"), (0, ("ann", ANN, 0, ""), "lead"),
                             (5, ("fay", (0, -1, "fay"), 0, "fay"), "lead"),
                             (5, ("fay", (-1, 0, ""), 0, "fay"), "lead"),
                             (1, ("bo", ANN, 0, "bo"), "lead"), (1, ("bo", ANN, 1, "dee"), "who"),
                             (1, ("bo", ANN, 2, "ann"), "who"), (1, ("bo", ANN, 1, "bo"), "who"),
                             (1, ("bo", FAY, 1, "ann"), "who"), (4, ("eve", ANN, 3, "bo"), "who"),
                             (4, ("eve", ANN, 1, "ann"), "who"), (4, ("eve", FAY, 1, "fay"), "who"),
                             (5, ("fay", ANN, 1, "ann"), "key"), (3, ("dee", ANN, 2, "zed"), "who"),
                             (3, ("dee", ANN, 2, ""), "who"), (3, ("dee", ANN, 2, "eve"), "who"),
                             (3, ("dee", ANN, 10 ** 50, "bo"), "who")):
            self.refused(with_row(k, row), word, k)

    def test_over_wires_that_are_down_nobody_follows(self):
        paper = (("ann", ANN, 0, "ann"), ("cy", ANN, 1, "ann"))
        self.assertEqual(lets_tree(NET, ("ann", "cy"), WIRES, paper), 1)
        self.refused(paper, "who", 1, up=("ann", "cy"), wires=WIRES[:1])
        self.refused((("dee", BO, 1, "bo"), ("eve", EVE, 0, "eve")), "key", 0, up=("dee", "eve"))
        self.refused((("dee", ANN, 2, "bo"), ("eve", ANN, 3, "dee")), "who", 0, up=("dee", "eve"))

    def test_near_with_unlike_keys(self):
        paper = (("bo", BO, 0, "bo"), ("dee", DEE, 0, "dee"), ("eve", DEE, 1, "dee"))
        self.refused(paper, "near", (0, 1), up=("bo", "dee", "eve"))
        self.refused((("dee", DEE, 0, "dee"), ("eve", EVE, 0, "eve")), "near", (0, 1), up=("dee", "eve"))
        alone = tuple([(name, key, 0, name) for name, key in zip(UP, (ANN, BO, CY, DEE, EVE, FAY))])
        self.refused(alone, "near", (0, 1))
        self.refused(alone, "near", (0, 2), wires=WIRES[1:])
        self.refused(alone, "near", (1, 3), wires=WIRES[2:])
        self.refused(alone, "near", (3, 4), wires=WIRES[4:])

    def test_near_with_steps_unlike_by_more_than_one(self):
        names = ("a", "ann", "bo", "cy")
        wires = (("a", "ann"), ("a", "cy"), ("ann", "bo"), ("bo", "cy"))
        net = (tuple([(name, 0, 0) for name in names]), wires)
        key = (0, 0, "a")
        paper = (("a", key, 0, "a"), ("ann", key, 1, "a"), ("bo", key, 2, "ann"), ("cy", key, 3, "bo"))
        self.assertEqual(repr(refusal_of(lets_tree, net, names, wires, paper)), repr((NoPaper, "near", (0, 3))))
        self.assertEqual(lets_tree(net, names, wires[:1] + wires[2:], paper), 1)
        self.assertEqual(lets_tree(net, names, wires, with_row(3, ("cy", key, 1, "a"), paper)), 1)
        self.assertEqual(lets_tree(net, names, wires, (*paper[:2], ("bo", key, 2, "cy"), ("cy", key, 1, "a"))), 1)

    def test_of_several_the_first_one(self):
        self.refused(with_row(0, ("zed", BO, 0, "bo", 0)), "shape", -1)
        self.refused(with_row(0, ("zed", BO, 0, "bo")), "many", -1)
        self.refused(with_row(0, ("ann", BO, 0, "bo")), "key", 0)
        self.refused(with_row(5, ("fay", ANN, 0, "ann"), with_row(1, ("bo", ANN, 0, "bo"))), "lead", 1)
        self.refused(with_row(5, ("fay", ANN, 0, "ann"), with_row(1, ("bo", ANN, 1, "bo"))), "who", 1)
        self.refused(with_row(0, ("ann", ANN, 1, "bo"), with_row(5, ("fay", ANN, 0, "fay"))), "who", 0)
        self.refused(with_row(1, ("bo", BO, 0, "bo"), with_row(5, ("fay", ANN, 0, "fay"))), "who", 3)
        self.refused(with_row(2, ("cy", CY, 0, "cy"), with_row(5, ("fay", ANN, 0, "fay"))), "key", 5)
        self.refused(with_row(2, ("cy", CY, 0, "cy")), "near", (0, 2))

    def test_odd_things(self):
        for thing in odd_things():
            self.check(NET, UP, WIRES, thing)
            self.check(NET, (), WIRES, thing)
            self.check(NET, UP, WIRES, with_row(3, thing))

    def test_told_ones_spoilt_at_every_place_once_and_twice(self):
        rng = random.Random(61)
        words = []
        for trial in range(60):
            net = random_net(rng)
            up, wires = random_up(rng, net)
            paper = tree_paper(net, up, wires)
            self.assertEqual(lets_tree(net, up, wires, paper), len(pieces_of(net, up, wires)))
            for thing in list(bent(paper)) + list(bent_twice(rng, paper, 10)):
                words.append(self.check(net, up, wires, thing))
        self.assertGreater(words.count("shape"), 500)

    def test_spoilt_by_other_things_of_the_same_kinds(self):
        rng = random.Random(62)
        words = []
        for trial in range(700):
            net = random_net(rng)
            up, wires = random_up(rng, net)
            if not up:
                continue
            for turn in range(12):
                paper = tree_paper(net, up, wires)
                for spoil in range(rng.choice((1, 1, 2, 3))):
                    paper = self.other(rng, net, up, paper)
                words.append(self.check(net, up, wires, paper))
        for word in ("fits", "key", "lead", "who", "near"):
            self.assertGreater(words.count(word), 60, word)

    def other(self, rng, net, up, paper):
        """A paper with a key, steps, a who turned; or a row whose member leads itself, or follows another one."""
        k = rng.randrange(len(paper))
        name, key, steps, who = paper[k]
        keys = {member[0]: key_of(member) for member in net[0]}
        choice = rng.randrange(6)
        if choice == 0:
            key = rng.choice(list(keys.values()))
        elif choice == 1:
            steps = max(0, steps + rng.choice((-1, 1)))
        elif choice == 2:
            who = rng.choice([row[0] for row in paper if row[2] == steps - 1] or up)
        elif choice == 3:
            return with_row(k, (name, keys[name], 0, name), paper)
        else:
            row = rng.choice(paper)
            key, steps, who = row[1], row[2] + 1, row[0]
        return with_row(k, (name, key, steps, who), paper)

    def test_papers_put_together_by_others_that_are_let_by(self):
        rng = random.Random(63)
        seen = 0
        for trial in range(4000):
            net = random_net(rng, rng.randint(1, 5))
            up, wires = random_up(rng, net)
            paper = tree_paper(net, up, wires)
            for spoil in range(rng.randint(0, 3) if up else 0):
                paper = self.other(rng, net, up, paper)
            if refusal_of(lets_tree, net, up, wires, paper) is not None:
                continue
            seen += 1
            self.as_62_tells(net, up, wires, paper)
        self.assertGreater(seen, 500)

    def test_each_other_who_as_near(self):
        rng = random.Random(64)
        seen = 0
        for trial in range(200):
            net = random_net(rng, rng.randint(4, 8))
            up, wires = random_up(rng, net)
            paper = tree_paper(net, up, wires)
            for k, (name, key, steps, who) in enumerate(paper):
                for row in paper:
                    near = (name, row[0]) in wires or (row[0], name) in wires
                    if near and row[2] == steps - 1 and row[0] != who:
                        other = with_row(k, (name, key, steps, row[0]), paper)
                        self.assertEqual(self.check(net, up, wires, other), "fits")
                        self.as_62_tells(net, up, wires, other)
                        seen += 1
        self.assertGreater(seen, 15)

    def as_62_tells(self, net, up, wires, paper):
        apart = oracle_steps_apart(up, wires)
        keys = {member[0]: key_of(member) for member in net[0]}
        rows = {row[0]: row for row in paper}
        for piece in pieces_of(net, up, wires):
            leader = min([keys[name] for name in piece])
            for name in piece:
                self.assertEqual(rows[name][1:3], (leader, apart[(name, leader[2])]))
                at = name
                for step in range(rows[name][2], 0, -1):
                    self.assertEqual(rows[at][2], step)
                    at = rows[at][3]
                self.assertEqual(at, leader[2])
        self.assertEqual(lets_tree(net, up, wires, paper), len(pieces_of(net, up, wires)))

    def test_by_name(self):
        self.assertEqual(lets_tree(thing=PAPER, wires=WIRES, up=UP, net=NET), 2)


if __name__ == "__main__":
    unittest.main()
