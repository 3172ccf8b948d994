"""The interface: names, arguments and defaults, each defined in the file under which it is listed, and called so."""

import ast
import importlib
import inspect
import itertools
import unittest
from pathlib import Path

from ledclocks.court import Court
from ledclocks.desk import Desk
from ledclocks.keepers import Keeper
from ledclocks.net_runs import NetRun
from tests.court_things import DEEDS, FIELD, HEAD, MARK, MEMBERS, WIRES, court_of
from tests.things import refusal_of

PACKAGE = Path(__file__).resolve().parent.parent / "ledclocks"

FUNCTIONS = {
    "numbers": ("is_number(thing)", "is_word(thing)"),
    "ratios": ("is_fraction(thing)", "ratio(a, b)", "added(one, other)", "less(one, other)", "times(one, other)",
               "parted(one, other)", "is_below(one, other)"),
    "houses": ("is_house(thing)", "is_link(thing)", "is_field(thing)"),
    "histories": ("is_history(thing)", "event_lacks(history, thing)", "put_on(history, thing)"),
    "letters": ("house_events(history, name)", "heard_letters(history)", "lost_letters(history)"),
    "worlds": ("is_world(history, thing)", "world_bars(history, world)", "source_times(history, world)"),
    "worldchecker": ("lets_world(history, thing)",),
    "hearing": ("has_heard(history, number)", "part_heard(history, number)"),
    "relays": ("relay_bounds(history, relay)", "relay_from(history, x, y)"),
    "relaychecker": ("lets_relay(history, thing)",),
    "stepping": ("history_steps(history)",),
    "waychecker": ("lets_way(history, x, y, thing)",),
    "reaching": ("reach_plain(history, x)", "reach_clever(history, x)", "reach(history, x, y)",
                 "least_way(history, x, y)"),
    "ringchecker": ("lets_ring(history, thing)",),
    "ringfinding": ("ring_of(history)", "world_or_ring(history)"),
    "stretching": ("stretch_of(history, x, y)",),
    "worldreaching": ("high_world(history, x, y, *, far=(1000, 1))", "low_world(history, x, y, *, far=(1000, 1))"),
    "sourcing": ("by_heard(history, event)",),
    "keptpairs": ("kept_pairs(history)", "first_void(history)", "kept_paper(history, event)"),
    "keptchecker": ("lets_kept(history, event, thing)",),
    "majorities": ("count_in(spans, point)", "by_majority(spans, *, liars=0)", "cover_paper(spans, *, liars=0)"),
    "coverchecker": ("lets_cover(spans, thing, *, liars=0)",),
    "showing": ("shown_times(history, *, slew=(1, 2))", "far_off(history, shown)"),
    "shownchecker": ("lets_shown(history, thing, *, slew=(1, 2))",),
    "nets": ("is_net(thing)", "is_state(net, thing)", "first_state(net)", "state_up(net, state, name, truth)"),
    "net_rounds": ("state_round(net, state, wires=None, *, most=4, age=1)",
                   "state_behind(net, state, many, wires=None, *, most=4, age=1)"),
    "net_trees": ("pieces_of(net, up, wires)", "tree_paper(net, up, wires)"),
    "treechecker": ("lets_tree(net, up, wires, thing)",),
    "followers": ("follows_of(state)", "follow_ring(pairs)"),
    "followchecker": ("lets_follow_ring(pairs, thing)",),
    "settling": ("ghosts_of(net, state, wires=None)", "rounds_to_halt(net, up, wires, *, most=4, age=1)"),
    "logs": ("is_log(thing)",),
    "replaying": ("replayed(log)",),
    "texts": ("row_line(row)", "log_lines(log)"),
    "readings": ("read_row(text)", "read_log(lines)"),
}
CLASSES = {
    "errors": {"ClockError": (), "LackError": (), "NoPaper": ("__init__(self, word, at)",),
               "NoWorld": ("__init__(self, ring)",), "NoEvent": ("__init__(self, word, at)",),
               "Lied": ("__init__(self, many)",), "NoText": ("__init__(self, row, word)",),
               "NoRow": ("__init__(self, row)",), "NoHouse": ("__init__(self, name)",),
               "NoLink": ("__init__(self, number)",), "NoNumber": ("__init__(self, number)",),
               "NoStep": ("__init__(self, number)",)},
    "keepers": {"Keeper": ("__init__(self, field)", "note(self, house, stamp, deed)", "history(self)",
                           "pair(self, number)", "now(self, house, stamp)", "__len__(self)", "__str__(self)",
                           "__eq__(self, other)", "__ne__(self, other)")},
    "net_runs": {"NetRun": ("__init__(self, net, *, most=4, age=1)", "set_up(self, name, truth)",
                            "set_wire(self, one, other, truth)", "go_round(self)", "best_of(self, name)",
                            "heard_of(self, name)", "state_now(self)", "wires_now(self)", "__len__(self)",
                            "__eq__(self, other)", "__ne__(self, other)")},
    "court": {"Court": ("__init__(self, field, members, wires, *, most=4, age=1)", "note(self, house, stamp, deed)",
                        "up(self, name, truth)", "wire(self, one, other, truth)", "go_round(self)", "field(self)",
                        "history(self)", "kept(self, number)", "heard(self, number)", "now(self, house, stamp)",
                        "stands(self)", "best(self, name)", "follows(self)", "leaders(self)",
                        "agreed(self, events, *, liars=0)", "log(self)", "__len__(self)", "__str__(self)",
                        "__eq__(self, other)", "__ne__(self, other)", "elder(self, k)", "undo(self)",
                        "do_all(self, deeds, *, keep=False)", "walks(self)")},
    "desk": {"Desk": ("__init__(self)", "say(self, row)")},
}

COURT = court_of((HEAD,) + DEEDS)
HISTORY = COURT.history()
NET = (MEMBERS, WIRES)
UP = ("ann", "bo", "cy")
STATE = tuple([(name, ((rank, kind, name), 0, name), ()) for name, rank, kind in MEMBERS])
SPANS = (((0, 1), (5, 1)), ((3, 1), None), ((2, 1), (4, 1)))
# A thing for each argument, by its name; where functions ask unlike things by one name, by both names.
GIVEN = {
    "a": 6, "b": -4, "one": (1, 2), "other": (2, 3), "history": HISTORY, "number": 1, "x": 0, "y": 1, "event": 1,
    "name": "bo", "world": ((0, 1), (2, 1), (5, 1), (4, 1)), "relay": (0, 1), "far": (7, 1), "spans": SPANS,
    "point": (3, 1), "liars": 1, "slew": (1, 3), "shown": ((5, 1), (7, 1), (8, 1), (9, 1)), "net": NET, "state": STATE,
    "truth": False, "wires": WIRES[:1], "most": 3, "age": 0, "many": 2, "up": UP, "pairs": (("ann", "bo"),),
    "log": (HEAD,) + DEEDS, "row": DEEDS[0], "text": "round", "lines": ["court ann 4 1", "house ann 1 1"],
    "thing": (), ("put_on", "thing"): ("ann", (9, 1), MARK), ("lets_way", "thing"): (0,),
    ("lets_world", "thing"): ((0, 1), (2, 1), (4, 1), (4, 1)), ("lets_relay", "thing"): (0, 1),
    ("lets_kept", "thing"): ((0, 1), None), ("lets_cover", "thing"): ((2, 1), (5, 1), (0, 2), (0, 1)),
    ("lets_shown", "thing"): ((5, 1), (7, 1), (17, 2), (9, 1)),
    ("lets_tree", "thing"): (("ann", (1, 5, "bo"), 1, "bo"), ("bo", (1, 5, "bo"), 0, "bo"),
                             ("cy", (1, 7, "cy"), 0, "cy")),
    ("lets_follow_ring", "pairs"): (("ann", "ann"),), ("lets_follow_ring", "thing"): ("ann",),
    ("is_number", "thing"): 1, ("is_word", "thing"): "ann", ("is_history", "thing"): HISTORY,
    ("lets_ring", "history"): (FIELD, (("ann", (0, 1), ("send", 0)), ("bo", (0, 1), ("hear", 0)),
                                       ("bo", (0, 1), ("send", 2)), ("ann", (1, 1), ("hear", 2)))),
    ("lets_ring", "thing"): (4, 7, 3, 1),
}


def functions():
    for module, rows in FUNCTIONS.items():
        for row in rows:
            name = row.partition("(")[0]
            yield name, getattr(importlib.import_module("ledclocks." + module), name)


def given_to(name, call):
    """Things for all arguments of a function, by their names; and the names that are behind a *."""
    given = {}
    named = []
    for each, parameter in inspect.signature(call).parameters.items():
        given[each] = GIVEN.get((name, each), GIVEN.get(each))
        if parameter.kind == parameter.KEYWORD_ONLY:
            named.append(each)
    return given, named


class TestInterface(unittest.TestCase):
    def test_functions(self):
        for module, rows in FUNCTIONS.items():
            there = importlib.import_module("ledclocks." + module)
            defined = [row.name for row in self.body_of(module) if isinstance(row, ast.FunctionDef)]
            for row in rows:
                name = row.partition("(")[0]
                self.assertIn(name, defined, module)
                self.assertEqual(name + str(inspect.signature(getattr(there, name))), row)

    def test_classes(self):
        for module, classes in CLASSES.items():
            there = importlib.import_module("ledclocks." + module)
            defined = [row.name for row in self.body_of(module) if isinstance(row, ast.ClassDef)]
            for name, rows in classes.items():
                self.assertIn(name, defined)
                for row in rows:
                    method = vars(getattr(there, name))[row.partition("(")[0]]
                    self.assertEqual(row.partition("(")[0] + str(inspect.signature(method)), row)

    def test_bounds(self):
        from ledclocks.showing import SLEW
        from ledclocks.worldreaching import FAR
        self.assertEqual((repr(SLEW), repr(FAR)), ("(1, 2)", "(1000, 1)"))

    def body_of(self, module):
        return ast.parse((PACKAGE / (module + ".py")).read_text()).body


class TestCalled(unittest.TestCase):
    def test_functions_by_place_and_by_name_in_any_order(self):
        for name, call in functions():
            given, named = given_to(name, call)
            placed = [given[each] for each in given if each not in named]
            told = repr(call(*placed, **{each: given[each] for each in named}))
            for order in itertools.islice(itertools.permutations(given), 24):
                self.assertEqual(repr(call(**{each: given[each] for each in order})), told, name)

    def test_functions_those_behind_a_star_by_name_alone(self):
        for name, call in functions():
            given, named = given_to(name, call)
            if named:
                with self.assertRaises(TypeError):
                    call(*list(given.values()))

    def test_functions_those_with_a_default_left_out(self):
        seen = []
        for name, call in functions():
            given, named = given_to(name, call)
            rows = inspect.signature(call).parameters
            left = [each for each in given if rows[each].default is not inspect.Parameter.empty]
            asked = {each: given[each] for each in given if each not in left}
            if left and name not in ("lets_cover", "lets_shown"):
                told = repr(call(**asked, **{each: rows[each].default for each in left}))
                self.assertEqual(repr(call(**asked)), told, name)
                self.assertEqual(repr(call(*asked.values())), told, name)
                seen.append(name)
        self.assertEqual(len(seen), 9)

    def test_nothing_handed_in_is_changed_and_nothing_hangs_on_what_was_asked(self):
        shown = repr(GIVEN)
        for name, call in functions():
            given, named = given_to(name, call)
            one = repr(call(**given))
            self.assertEqual(repr(call(**given)), one)
        self.assertEqual(repr(GIVEN), shown)

    def deeds(self):
        """Each deed of each class, by names in any order, at an object of its own."""
        return (
            (lambda: Keeper(field=FIELD), "note", {"house": "ann", "stamp": (9, 1), "deed": MARK}, 0),
            (lambda: Keeper(FIELD), "now", {"house": "ann", "stamp": (9, 1)}, ((9, 1), (9, 1))),
            (lambda: NetRun(net=NET), "set_up", {"name": "ann", "truth": False}, None),
            (lambda: NetRun(NET, age=2, most=3), "set_wire", {"one": "bo", "other": "ann", "truth": False}, None),
            (lambda: NetRun(NET), "best_of", {"name": "ann"}, ((2, 0, "ann"), 0, "ann")),
            (lambda: NetRun(NET), "heard_of", {"name": "ann"}, ()),
            (self.court, "note", {"house": "ann", "stamp": (9, 1), "deed": MARK}, 4),
            (self.court, "up", {"name": "ann", "truth": False}, None),
            (self.court, "wire", {"one": "bo", "other": "ann", "truth": False}, None),
            (self.court, "kept", {"number": 1}, ((6, 1), (8, 1))),
            (self.court, "heard", {"number": 1}, ((6, 1), (8, 1))),
            (self.court, "now", {"house": "ann", "stamp": (9, 1)}, ((9, 1), (9, 1))),
            (self.court, "best", {"name": "bo"}, ((1, 5, "bo"), 0, "bo")),
            (self.court, "agreed", {"events": (0, 1), "liars": 0}, ((6, 1), (8, 1))),
            (self.court, "elder", {"k": 0}, (FIELD, ())),
            (self.court, "do_all", {"deeds": (("round",),), "keep": True}, 1),
            (Desk, "say", {"row": "court ann 4 1 / house ann 1 1"}, "ok"),
        )

    def court(self):
        court = Court(wires=WIRES, age=1, members=MEMBERS, most=4, field=FIELD)
        court.do_all(DEEDS)
        return court

    def test_deeds_by_place_and_by_name_in_any_order(self):
        for make, name, given, told in self.deeds():
            for order in itertools.permutations(given):
                self.assertEqual(repr(getattr(make(), name)(**{each: given[each] for each in order})), repr(told), name)
            if name not in ("agreed", "do_all"):
                self.assertEqual(repr(getattr(make(), name)(*given.values())), repr(told), name)
        self.assertEqual(Keeper(FIELD).note("ann", (9, 1), deed=MARK), 0)
        keeper = Keeper(FIELD)
        keeper.note("ann", (9, 1), MARK)
        self.assertEqual(keeper.pair(number=0), keeper.pair(0))

    def test_deeds_with_a_default_left_out(self):
        court = self.court()
        self.assertEqual(court.agreed((0, 1)), court.agreed((0, 1), liars=0))
        self.assertEqual(Court(FIELD, MEMBERS, WIRES).log(), (HEAD,))
        self.assertIs(NetRun(NET) == NetRun(NET, most=4, age=1), True)
        self.assertIsNotNone(refusal_of(court.do_all, (("round",), ("up", "zed", True))))
        self.assertEqual(len(court), len(DEEDS))
        for call, given in ((Court, (FIELD, MEMBERS, WIRES, 4)), (NetRun, (NET, 4)), (court.agreed, ((0,), 0)),
                            (court.do_all, ((), True))):
            with self.assertRaises(TypeError):
                call(*given)

    def test_what_is_told_is_of_just_its_kind(self):
        for name, call in functions():
            given, named = given_to(name, call)
            self.assertIn(type(call(**given)), (bool, int, str, tuple, list, type(None), Court), name)


if __name__ == "__main__":
    unittest.main()
