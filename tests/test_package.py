"""The package as a whole: its files, its interface, its language, its README."""

import ast
import doctest
import inspect
import pathlib
import unittest

import touchrings.called
import touchrings.counts
import touchrings.errors
import touchrings.fewest
import touchrings.figures
import touchrings.floors
import touchrings.halls
import touchrings.kinds
import touchrings.labels
import touchrings.offers
import touchrings.pairs
import touchrings.plans
import touchrings.ruled
import touchrings.skips
import touchrings.texts
import touchrings.turnings
import touchrings.unseen
import touchrings.ways

ROOT = pathlib.Path(__file__).resolve().parent.parent
PACKAGE = ROOT / "touchrings"
TREES = {path.stem: ast.parse(path.read_text()) for path in sorted(PACKAGE.glob("*.py"))}
INTERFACE = {
    touchrings.floors: {
        "are_rings": "thing", "is_floor": "thing", "is_place": "floor thing", "places": "floor", "seat": "floor place",
        "behind": "floor place k", "partner": "floor place", "parts": "floor", "is_joined": "floor",
        "within": "floor lot", "beside": "one other", "with_touch": "floor x y", "without_touch": "floor number",
    },
    touchrings.turnings: {
        "is_turning": "floor thing", "led": "floor turning", "place_led": "floor turning place",
        "both": "floor first second", "back": "floor turning", "turning_between": "one other", "backward": "floor",
    },
    touchrings.texts: {"text_of": "floor", "read_floor": "text"},
    touchrings.plans: {
        "is_arrangement": "floor thing", "is_plan": "floor thing", "home": "floor", "beats_of": "floor plan",
        "changes_of": "floor plan", "after": "floor arrangement plan", "before": "floor arrangement plan",
        "plan_map": "floor plan", "stands_at": "floor plan place t", "unrolled": "floor plan",
        "plan_back": "floor plan",
    },
    touchrings.figures: {
        "order_of": "floor plan", "times_at": "floor plan place other", "times_all": "floor plan wishes",
        "judge_times": "floor plan wishes", "times_hold": "floor plan wishes thing",
        "meetings": "floor plan place other",
    },
    touchrings.labels: {
        "part_numbers": "floor", "labels": "floor", "classes": "floor", "is_free": "floor",
        "walked": "floor place walk", "judge_labels": "floor m", "labels_hold": "floor m thing",
        "judge_number": "floor", "number_holds": "floor thing", "inner_number": "floor", "lengths_for": "floor m",
    },
    touchrings.ways: {
        "is_way": "floor place thing", "way_end": "floor place way", "stands": "floor place t",
        "times": "floor place other", "first_time": "floor place other", "shortest_way": "floor place other",
        "judge_stand": "floor place other t", "stand_holds": "floor place other t thing",
    },
    touchrings.called: {
        "called_rest": "floor one other", "sure_beat": "floor", "judge_called": "floor one other",
        "called_holds": "floor one other thing", "plan_at": "floor one other t",
    },
    touchrings.counts: {
        "many_arrangements": "floor", "number_of": "floor arrangement", "arrangement_with": "floor number",
    },
    touchrings.kinds: {
        "guise_after": "floor guise plan", "kind_rests": "floor one other", "many_guises": "floor guise",
        "judge_kinds": "floor one other", "kinds_hold": "floor one other thing",
    },
    touchrings.fewest: {
        "change_rest": "floor one other t", "changes_bound": "floor one other", "fewest_changes": "floor one other",
        "fewest_beats": "floor one other", "cheapest_plan": "floor one other", "shortest_plan": "floor one other",
    },
    touchrings.pairs: {
        "can_meet": "floor place other", "first_meeting": "floor place other", "judge_meeting": "floor place other",
        "meeting_holds": "floor place other thing", "judge_apart": "floor place other",
        "apart_holds": "floor place other thing", "latest_meeting": "floor place other",
    },
    touchrings.ruled: {
        "are_rules": "floor thing", "ruled_after": "floor rules arrangement calls",
        "settled_at": "floor rules place t", "made_floor": "floor rules", "rules_round": "floor rules",
        "tied_lots": "floor rules", "ruled_rests": "floor rules one other",
    },
    touchrings.skips: {
        "are_skips": "floor thing", "skip_numbers": "floor skips", "skipped_after": "floor skips arrangement plan",
        "judge_skipped": "floor skips one other", "skipped_hold": "floor skips one other thing",
    },
    touchrings.offers: {
        "needless": "floor", "are_offers": "floor thing", "fewest_offers": "floor offers",
        "judge_offers": "floor offers", "offers_hold": "floor offers thing",
    },
    touchrings.unseen: {
        "judge_sights": "rings sights", "sights_hold": "rings sights thing", "least_floor": "rings sights",
        "sure": "rings sights claim",
    },
    touchrings.halls: {"read_hall": "text"},
}
METHODS = {
    "__init__": "self floor", "floor": "self", "arrangement": "self", "promises": "self", "deeds": "self",
    "judged": "self promise", "against_holds": "self promise thing", "change": "self change", "deal": "self changes",
    "would": "self changes", "undo": "self", "redo": "self", "copied": "self", "__eq__": "self other",
    "__str__": "self",
}
BUILTINS = set("""len range enumerate zip min max sum abs sorted reversed int str bool bytes list tuple dict set
    isinstance ord repr any all divmod Exception""".split())
LIBRARY = {"math": {"gcd", "lcm", "factorial"}, "heapq": {"heappush", "heappop"}, "itertools": {"combinations"}}
LIBRARY_NAMES = set().union(*LIBRARY.values())
BARRED = (ast.Global, ast.AsyncFunctionDef, ast.AsyncFor, ast.AsyncWith, ast.Await, ast.Div, ast.Import)


class Package(unittest.TestCase):
    def test_files(self):
        names = [path.name for path in PACKAGE.iterdir() if path.name != "__pycache__"]
        self.assertIn("__init__.py", names)
        for name in names:
            self.assertRegex(name, r"\A[a-z0-9_]+\.py\Z")

    def test_characters_and_sizes(self):
        for path in PACKAGE.glob("*.py"):
            text = path.read_text(encoding="utf-8")
            self.assertTrue(all(char == "\n" or " " <= char <= "~" for char in text), path)
            self.assertLessEqual(len(text.splitlines()), 399, path)
            self.assertLessEqual(max(len(line) for line in text.splitlines()), 120, path)

    def test_functions_are_small_and_plain(self):
        for name, tree in TREES.items():
            for node in ast.walk(tree):
                self.assertNotIsInstance(node, BARRED, name)
                if isinstance(node, ast.FunctionDef):
                    self.assertLessEqual(node.end_lineno - node.lineno + 1, 40, (name, node.name))
                    self.assertEqual(node.decorator_list, [], (name, node.name))
                if isinstance(node, ast.Constant):
                    self.assertNotIsInstance(node.value, (float, complex), name)

    def test_names_of_the_library_are_only_called(self):
        for name, tree in TREES.items():
            called = [node.func for node in ast.walk(tree) if isinstance(node, ast.Call) and not node.keywords]
            for node in ast.walk(tree):
                if isinstance(node, ast.Name) and node.id in LIBRARY_NAMES:
                    self.assertIn(node, called, (name, node.lineno))
                self.assertNotIn(getattr(node, "arg", None), LIBRARY_NAMES, name)

    def test_imports_are_of_the_package_and_go_one_way(self):
        needs = {name: set() for name in TREES}
        for name, tree in TREES.items():
            for node in ast.walk(tree):
                if isinstance(node, ast.ImportFrom) and node.module in LIBRARY:
                    self.assertLessEqual({alias.name for alias in node.names}, LIBRARY[node.module])
                elif isinstance(node, ast.ImportFrom):
                    self.assertRegex(node.module, r"\Atouchrings\.\w+\Z")
                    needs[name].add(node.module.split(".")[1])
        while needs:
            done = [name for name in needs if not needs[name] & set(needs)]
            self.assertTrue(done, f"files import from each other: {sorted(needs)}")
            needs = {name: rest for name, rest in needs.items() if name not in done}

    def test_only_plain_builtins(self):
        for name, tree in TREES.items():
            known = set(dir(__builtins__) if inspect.ismodule(__builtins__) else __builtins__)
            used = {node.id for node in ast.walk(tree) if isinstance(node, ast.Name)}
            self.assertLessEqual(used & known, BUILTINS, name)

    def test_names_are_given_one_meaning(self):
        taken = set(dir(__builtins__) if inspect.ismodule(__builtins__) else __builtins__)
        for name, tree in TREES.items():
            imports = [node for node in tree.body if isinstance(node, ast.ImportFrom)]
            imported = {alias.name for node in imports for alias in node.names}
            words = [node for node in ast.walk(tree) if isinstance(node, ast.Name)]
            stored = {node.id for node in words if isinstance(node.ctx, ast.Store)}
            stored |= {node.arg for node in ast.walk(tree) if isinstance(node, ast.arg)}
            defined = {node.name for node in ast.walk(tree) if isinstance(node, (ast.FunctionDef, ast.ClassDef))}
            self.assertEqual((stored | defined) & (taken | imported), set(), name)
            read = {node.id for node in words}
            self.assertLessEqual(imported, read, name)

    def test_strings_have_no_percent_sign(self):
        for name, tree in TREES.items():
            for node in ast.walk(tree):
                if isinstance(node, ast.Constant) and isinstance(node.value, str):
                    self.assertNotIn("\N{PERCENT SIGN}", node.value, name)

    def test_interface_is_defined_in_its_file(self):
        for module, functions in INTERFACE.items():
            for name, parameters in functions.items():
                call = getattr(module, name)
                self.assertTrue(inspect.isfunction(call), name)
                self.assertEqual(call.__module__, module.__name__)
                self.assertEqual(" ".join(inspect.signature(call).parameters), parameters, name)

    def test_methods_of_the_hall_are_defined_in_it(self):
        self.assertEqual(touchrings.halls.Hall.__module__, "touchrings.halls")
        for name, parameters in METHODS.items():
            call = vars(touchrings.halls.Hall)[name]
            self.assertTrue(inspect.isfunction(call), name)
            self.assertEqual(" ".join(inspect.signature(call).parameters), parameters, name)

    def test_readme(self):
        found = doctest.testfile(str(ROOT / "README.md"), module_relative=False)
        self.assertGreater(found.attempted, 0)
        self.assertEqual(found.failed, 0)
