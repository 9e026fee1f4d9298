"""The interface's own words: names, the files they stand in, methods, and imports without a circle."""

import ast
import importlib
import inspect
import pathlib
import unittest

from leafmarks import histories, judging
from leafmarks.places import Place
from leafmarks.rules import Rule
from leafmarks.shelves import Device, Shelf
from leafmarks.walks import Walk
from leafmarks.works import Edition, Work
from tests.helpers import FIELDS, work_of

PACKAGE = pathlib.Path(__file__).resolve().parent.parent / "leafmarks"

NAMES = {
    "errors": ["LeafError", *FIELDS],
    "works": ["Work", "Edition"],
    "places": ["Place"],
    "walks": ["Walk", "crossing", "mended"],
    "rules": ["Rule"],
    "histories": ["played", "faults", "history_text", "read_history"],
    "judging": ["judged", "is_run", "is_never", "rules_parted", "needed"],
    "shelves": ["Shelf", "Device"],
}

METHODS = {
    Work: ["passages", "whole", "__len__", "__contains__", "__eq__"],
    Edition: [
        "passages",
        "cut_behind",
        "count_at",
        "kernel",
        "__len__",
        "__contains__",
        "__and__",
        "__or__",
        "__sub__",
        "__lt__",
        "__le__",
        "__eq__",
    ],
    Place: [
        "cut",
        "seen",
        "__add__",
        "__radd__",
        "__sub__",
        "__floordiv__",
        "__mod__",
        "__lt__",
        "__le__",
        "__gt__",
        "__ge__",
        "__eq__",
    ],
    Walk: [
        "__call__",
        "editions",
        "table",
        "turned",
        "parted",
        "shortest",
        "rest",
        "turns",
        "longest",
        "__len__",
        "__rshift__",
        "__pow__",
        "__lt__",
        "__le__",
        "__eq__",
    ],
    Rule: ["fields", "show", "text", "__eq__", "of_text", "furthest", "latest", "newest", "inrow"],
    Shelf: ["__getitem__", "__setitem__", "works", "device"],
    Device: [
        "part",
        "place",
        "shown",
        "places",
        "marks",
        "jump",
        "show",
        "read",
        "anew",
        "give",
        "take",
        "away",
        "is_away",
    ],
}

ARGUMENTS = [
    (Work, ["name", "passages"]),
    (Edition, ["work", "passages"]),
    (Edition.cut_behind, ["self", "count"]),
    (Edition.count_at, ["self", "cut"]),
    (Edition.kernel, ["self", "cut"]),
    (Place, ["edition", "count"]),
    (Place.seen, ["self", "edition"]),
    (Walk, ["work", "editions"]),
    (Walk.__call__, ["self", "cut"]),
    (Walk.turned, ["self", "turns"]),
    (Walk.parted, ["self", "other"]),
    (Walk.rest, ["self", "cut"]),
    (Walk.turns, ["self", "cut"]),
    (Rule, ["fields", "show"]),
    (Rule.of_text, ["text"]),
    (Rule.furthest, []),
    (Rule.latest, []),
    (Rule.newest, []),
    (Rule.inrow, []),
    (histories.played, ["rule", "setting", "history"]),
    (histories.faults, ["rule", "setting", "history"]),
    (histories.history_text, ["history"]),
    (histories.read_history, ["text"]),
    (judging.judged, ["rule", "fault", "setting", "deeds", "most"]),
    (judging.is_run, ["rule", "fault", "setting", "history", "deeds"]),
    (judging.is_never, ["rule", "fault", "setting", "states", "deeds"]),
    (judging.rules_parted, ["one", "other", "setting", "deeds", "most"]),
    (judging.needed, ["rule", "fault", "setting", "deeds", "most"]),
    (Shelf, ["rule"]),
    (Shelf.device, ["self", "editions"]),
    (Device.jump, ["self", "place"]),
    (Device.show, ["self", "edition"]),
    (Device.read, ["self", "passages"]),
    (Device.away, ["self", "work", "things"]),
]


def imports_of(path):
    """The names of the package's modules that a file imports."""
    found = []
    for node in ast.walk(ast.parse(path.read_text(encoding="utf-8"))):
        if isinstance(node, ast.ImportFrom):
            names = [node.module] + [f"{node.module}.{alias.name}" for alias in node.names]
        elif isinstance(node, ast.Import):
            names = [alias.name for alias in node.names]
        else:
            continue
        found += [name.split(".")[1] for name in names if name and name.startswith("leafmarks.")]
    return sorted(set(found) & {path.stem for path in PACKAGE.glob("*.py")})


class TestInterface(unittest.TestCase):
    def test_each_name_stands_in_its_file(self):
        for module, names in NAMES.items():
            held = importlib.import_module(f"leafmarks.{module}")
            for name in names:
                self.assertEqual(getattr(held, name).__module__, f"leafmarks.{module}", name)
                self.assertEqual(getattr(held, name).__name__, name)

    def test_each_method_stands_in_its_class(self):
        for kind, names in METHODS.items():
            for name in names:
                self.assertIn(name, vars(kind), kind)

    def test_properties(self):
        self.assertIsInstance(vars(Place)["cut"], property)
        for name in ("part", "place", "shown"):
            self.assertIsInstance(vars(Device)[name], property)

    def test_class_and_static_methods(self):
        self.assertIsInstance(vars(Rule)["of_text"], classmethod)
        for name in ("furthest", "latest", "newest", "inrow"):
            self.assertIsInstance(vars(Rule)[name], staticmethod)

    def test_defaults_behind_a_star(self):
        deeds = ("read", "jump", "anew", "give", "take")
        for name in NAMES["judging"]:
            parameters = inspect.signature(getattr(judging, name)).parameters
            self.assertEqual(parameters["deeds"].default, deeds)
            told = [parameters[behind].kind for behind in ("deeds", "most") if behind in parameters]
            self.assertEqual(set(told), {inspect.Parameter.KEYWORD_ONLY})
            if name not in ("is_run", "is_never"):
                self.assertEqual(parameters["most"].default, 5000)

    def test_arguments_have_their_names(self):
        for thing, names in ARGUMENTS:
            self.assertEqual(list(inspect.signature(thing).parameters), names, thing)
        walks = importlib.import_module("leafmarks.walks")
        self.assertEqual(list(inspect.signature(walks.crossing).parameters), ["one", "other"])
        self.assertEqual(list(inspect.signature(walks.mended).parameters), ["editions"])

    def test_fields_of_errors_have_their_names(self):
        errors = importlib.import_module("leafmarks.errors")
        for name, fields in FIELDS.items():
            if fields:
                self.assertEqual(tuple(inspect.signature(getattr(errors, name)).parameters), fields, name)

    def test_attributes_are_set_on_each_object(self):
        work = work_of(3)
        for edition in (work.whole(), Edition(work, []), work.whole() - Edition(work, [])):
            self.assertEqual(edition.work, work)
            place = Place(edition, 0)
            self.assertEqual(place.edition, edition)
            self.assertEqual((place.count, place.cut), (0, 0))
        self.assertEqual(work.name, "w")
        shelf = Shelf(Rule.latest())
        self.assertEqual(shelf.rule, Rule.latest())
        self.assertIs(shelf.device([work.whole()]).shelf, shelf)


class TestImports(unittest.TestCase):
    def test_no_two_modules_import_each_other_in_a_circle(self):
        left = {path.stem: imports_of(path) for path in PACKAGE.glob("*.py")}
        while left:
            free = [name for name, needed in left.items() if not [one for one in needed if one in left]]
            self.assertTrue(free, left)
            left = {name: needed for name, needed in left.items() if name not in free}

    def test_the_package_imports_from_itself_alone(self):
        for path in PACKAGE.glob("*.py"):
            for node in ast.walk(ast.parse(path.read_text(encoding="utf-8"))):
                if isinstance(node, ast.Import):
                    self.assertEqual((path.name, [alias.name for alias in node.names]), ("__main__.py", ["sys"]))
                elif isinstance(node, ast.ImportFrom):
                    self.assertEqual(node.level, 0)
                    self.assertTrue(node.module == "__future__" or node.module.startswith("leafmarks."), path)

    def test_the_package_holds_its_files_alone(self):
        self.assertTrue((PACKAGE / "__init__.py").is_file())
        strange = [path.name for path in PACKAGE.iterdir() if path.suffix != ".py" and path.name != "__pycache__"]
        self.assertEqual(strange, [])


if __name__ == "__main__":
    unittest.main()
