"""The interface: names, arguments and defaults, each defined in the file under which it is listed."""

import ast
import importlib
import inspect
import unittest
from pathlib import Path

PACKAGE = Path(__file__).resolve().parent.parent / "ledclocks"

FUNCTIONS = {
    "hearing": ("has_heard(history, number)", "part_heard(history, number)"),
    "reaching": ("reach_plain(history, x)", "reach_clever(history, x)", "reach(history, x, y)",
                 "least_way(history, x, y)"),
    "stretching": ("stretch_of(history, x, y)",),
    "sourcing": ("by_heard(history, event)",),
    "coverchecker": ("lets_cover(spans, thing, *, liars=0)",),
    "texts": ("row_line(row)", "log_lines(log)"),
    "histories": ("is_history(thing)", "event_lacks(history, thing)", "put_on(history, thing)"),
    "letters": ("house_events(history, name)", "heard_letters(history)", "lost_letters(history)"),
    "keptchecker": ("lets_kept(history, event, thing)",),
    "followchecker": ("lets_follow_ring(pairs, thing)",),
    "readings": ("read_row(text)", "read_log(lines)"),
    "worlds": ("is_world(history, thing)", "world_bars(history, world)", "source_times(history, world)"),
    "worldchecker": ("lets_world(history, thing)",),
    "relays": ("relay_bounds(history, relay)", "relay_from(history, x, y)"),
    "relaychecker": ("lets_relay(history, thing)",),
    "net_trees": ("pieces_of(net, up, wires)", "tree_paper(net, up, wires)"),
    "logs": ("is_log(thing)",),
    "replaying": ("replayed(log)",),
}
CLASSES = {
    "court": {"Court": ("__init__(self, field, members, wires, *, most=4, age=1)", "note(self, house, stamp, deed)",
                        "up(self, name, truth)", "wire(self, one, other, truth)", "go_round(self)", "field(self)",
                        "history(self)", "kept(self, number)", "heard(self, number)", "now(self, house, stamp)",
                        "stands(self)", "best(self, name)", "follows(self)", "leaders(self)",
                        "agreed(self, events, *, liars=0)", "log(self)", "__len__(self)", "__str__(self)",
                        "__eq__(self, other)", "__ne__(self, other)", "elder(self, k)", "undo(self)",
                        "do_all(self, deeds, *, keep=False)", "walks(self)")},
    "desk": {"Desk": ("__init__(self)", "say(self, row)")},
}


class TestInterface(unittest.TestCase):
    def test_functions(self):
        for module, rows in FUNCTIONS.items():
            there = importlib.import_module("ledclocks." + module)
            defined = [row.name for row in self.body_of(module) if isinstance(row, ast.FunctionDef)]
            for row in rows:
                name = row.partition("(")[0]
                self.assertIn(name, defined, module)
                self.assertEqual(name + str(inspect.signature(getattr(there, name))), row)

    def test_classes(self):
        for module, classes in CLASSES.items():
            there = importlib.import_module("ledclocks." + module)
            defined = [row.name for row in self.body_of(module) if isinstance(row, ast.ClassDef)]
            for name, rows in classes.items():
                self.assertIn(name, defined)
                for row in rows:
                    method = vars(getattr(there, name))[row.partition("(")[0]]
                    self.assertEqual(row.partition("(")[0] + str(inspect.signature(method)), row)

    def body_of(self, module):
        return ast.parse((PACKAGE / (module + ".py")).read_text()).body


if __name__ == "__main__":
    unittest.main()
