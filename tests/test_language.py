"""Rules of ../shared/LANGUAGE.md that a file can be asked for at a glance; the paper has more of them."""

import ast
import builtins
import pathlib
import re
import unittest

PACKAGE = pathlib.Path(__file__).resolve().parent.parent / "leafmarks"

BARRED_WORDS = (
    "type typing typing_extensions enum Enum IntEnum StrEnum Flag IntFlag Generic Protocol ABC ABCMeta namedtuple "
    "NamedTuple TypedDict TYPE_CHECKING abstractmethod"
).split()
BARRED_PARTS = ("dataclass", "overload", "contextmanager")
BARRED_NAMES = (
    "register mro elements open input law version_info with_traceback add_note attrgetter breakpoint builtins compile "
    "copyright credits delattr dir eval exec exit gc getattr globals hasattr help id importlib license locals "
    "methodcaller os quit setattr super type vars sys"
).split()
BUILTINS = (
    "len range enumerate zip min max sum abs sorted reversed int str bool bytes list tuple dict set frozenset isinstance ord "
    "repr any all divmod iter next Exception ValueError TypeError KeyError IndexError LookupError ZeroDivisionError "
    "ArithmeticError OverflowError RuntimeError NotImplementedError AttributeError StopIteration NotImplemented "
    "property staticmethod classmethod super"
).split()
METHODS = (
    "init eq repr str len enter exit call iter lt le gt ge ne add sub mul floordiv mod pow and or xor lshift rshift "
    "radd rsub rmul rfloordiv rmod rand ror rxor rlshift rrshift iadd isub imul ifloordiv imod ipow iand ior ixor "
    "ilshift irshift neg pos invert abs bool contains getitem setitem"
).split()


def files():
    for path in sorted(PACKAGE.glob("*.py")):
        text = path.read_text(encoding="utf-8")
        yield path.name, text, ast.parse(text)


def functions(tree):
    return [node for node in ast.walk(tree) if isinstance(node, ast.FunctionDef)]


def bound_names(tree):
    """The names that are given a meaning somewhere in a file, methods and attributes left out."""
    methods = [part for node in ast.walk(tree) if isinstance(node, ast.ClassDef) for part in node.body]
    for node in ast.walk(tree):
        if isinstance(node, ast.Name) and isinstance(node.ctx, ast.Store):
            yield node.id
        elif isinstance(node, ast.arg):
            yield node.arg
        elif isinstance(node, (ast.FunctionDef, ast.ClassDef)) and node not in methods:
            yield node.name
        elif isinstance(node, ast.alias):
            yield node.asname or node.name


class TestLanguage(unittest.TestCase):
    def test_l10_sizes(self):
        for name, text, tree in files():
            lines = text.split("\n")
            self.assertLessEqual(len(lines), 399, name)
            self.assertLessEqual(max(len(line) for line in lines), 120, name)
            for node in functions(tree):
                self.assertLessEqual(node.end_lineno - node.lineno + 1, 40, (name, node.name))

    def test_l14_characters(self):
        for name, text, _ in files():
            self.assertEqual([sign for sign in text if not (" " <= sign <= "~" or sign == "\n")], [], name)

    def test_l12_and_l5_names(self):
        for name, _, tree in files():
            for bound in bound_names(tree):
                told = bound in ("__slots__", "__all__", "__version__")
                self.assertTrue(told or not bound.startswith("_"), (name, bound))
            for node in ast.walk(tree):
                if isinstance(node, ast.Attribute):
                    self.assertFalse(node.attr.startswith("_") and node.attr != "__init__", (name, node.attr))
            for node in functions(tree):
                if node.name.startswith("_"):
                    self.assertIn(node.name, [f"__{told}__" for told in METHODS], name)

    def test_l17_words(self):
        for name, text, tree in files():
            words = set(re.findall(r"[A-Za-z0-9_]+", text))
            self.assertEqual(words & set(BARRED_WORDS), set(), name)
            self.assertEqual([part for part in BARRED_PARTS if part in text], [], name)
            self.assertEqual(set(bound_names(tree)) & set(BARRED_NAMES), set(), name)

    def test_l8_and_l15_builtins(self):
        for name, _, tree in files():
            self.assertEqual(set(bound_names(tree)) & set(dir(builtins)), set(), name)
            used = {node.id for node in ast.walk(tree) if isinstance(node, ast.Name)}
            self.assertEqual((used & set(dir(builtins))) - set(BUILTINS), set(), name)

    def test_l15_no_local_name_is_that_of_an_import_or_a_class(self):
        for name, _, tree in files():
            barred = [node.name for node in tree.body if isinstance(node, ast.ClassDef)]
            barred += [alias.name for node in tree.body if isinstance(node, ast.ImportFrom) for alias in node.names]
            self.assertEqual(len(barred), len(set(barred)), name)
            for node in functions(tree):
                inner = [part.id for part in ast.walk(node) if isinstance(part, ast.Name) and isinstance(part.ctx, ast.Store)]
                inner += [part.arg for part in ast.walk(node) if isinstance(part, ast.arg)]
                self.assertEqual(set(inner) & set(barred), set(), (name, node.name))

    def test_l5_what_is_sorted_is_plain(self):
        # Works, editions and places compare: only what certainly holds none of them is sorted.
        for name, _, tree in files():
            for node in ast.walk(tree):
                if isinstance(node, ast.Call) and isinstance(node.func, ast.Name) and node.func.id in ("sorted", "min", "max"):
                    kinds = [part.func.id for part in node.args if isinstance(part, ast.Call) and isinstance(part.func, ast.Name)]
                    kinds += ["int" for part in node.args if isinstance(part, ast.Constant)]
                    self.assertTrue(set(kinds) & {"set", "int", "len"}, (name, node.lineno))

    def test_l4_and_l5_decorators(self):
        for name, _, tree in files():
            for node in functions(tree):
                for told in node.decorator_list:
                    self.assertIn(told.id, ("property", "staticmethod", "classmethod"), name)

    def test_l20_is(self):
        for name, _, tree in files():
            for node in ast.walk(tree):
                if isinstance(node, ast.Compare):
                    for sign, right in zip(node.ops, node.comparators):
                        if isinstance(sign, (ast.Is, ast.IsNot)):
                            told = isinstance(right, ast.Constant) and right.value in (None, True, False)
                            self.assertTrue(told, (name, node.lineno))

    def test_l18_no_name_is_a_method_here_and_an_attribute_there(self):
        methods, attributes = set(), set()
        for _, _, tree in files():
            for node in ast.walk(tree):
                if isinstance(node, ast.ClassDef):
                    methods |= {part.name for part in node.body if isinstance(part, ast.FunctionDef)}
                elif isinstance(node, ast.Attribute) and isinstance(node.ctx, ast.Store):
                    attributes.add(node.attr)
        self.assertEqual(methods & attributes, set())

    def test_l27_strings(self):
        for name, _, tree in files():
            for node in ast.walk(tree):
                if isinstance(node, ast.Constant) and isinstance(node.value, str):
                    self.assertNotIn("%", node.value, (name, node.lineno))


if __name__ == "__main__":
    unittest.main()
