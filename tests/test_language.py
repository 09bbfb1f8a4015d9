"""What a machine can see of the rules in LANGUAGE.md, for the files of the package.

It sees only a part of them: a file that passes here still has to be read
against the rules.
"""

import ast
import builtins
import re
import unittest
from pathlib import Path

PACKAGE = Path(__file__).resolve().parent.parent / "graincourse"

BUILTINS = set("""
    len range enumerate zip min max sum abs sorted reversed int str bool bytes list tuple dict set isinstance ord repr
    any all divmod iter next Exception ValueError TypeError KeyError IndexError LookupError ZeroDivisionError
    ArithmeticError OverflowError RuntimeError NotImplementedError AttributeError StopIteration NotImplemented
    property staticmethod classmethod super
""".split())
METHODS = set("""
    append clear copy count endswith extend find get index insert isalnum isalpha isdigit islower isspace isupper items
    join keys ljust lower lstrip partition pop remove replace reverse rfind rjust rpartition rsplit rstrip setdefault
    split splitlines startswith strip update upper values zfill bit_length capitalize swapcase casefold expandtabs
    removeprefix removesuffix rindex isascii isdecimal isnumeric istitle isidentifier isprintable sort add discard
""".split())
BARRED_NAMES = set("""
    register mro elements open input law version_info with_traceback add_note attrgetter breakpoint builtins compile
    copyright credits delattr dir eval exec exit gc getattr globals hasattr help id importlib license locals
    methodcaller os quit setattr type vars sys
""".split())
BARRED_WORDS = re.compile(
    r"\b(type|typing|typing_extensions|enum|Enum|IntEnum|StrEnum|Flag|IntFlag|Generic|Protocol|ABC|ABCMeta|namedtuple"
    r"|NamedTuple|TypedDict|TYPE_CHECKING|abstractmethod)\b|dataclass|overload|contextmanager")
BARRED_NODES = (
    ast.Global, ast.AsyncFunctionDef, ast.AsyncFor, ast.AsyncWith, ast.Await, ast.Import, ast.Div, ast.MatMult,
    ast.MatchClass, ast.MatchMapping, ast.TryStar)
DUNDER = re.compile(r"__[a-z]+__")

INTERFACE = {
    "errors": [
        "GrainError", "MissingError", "InvalidFraction()", "InvalidStatement(place)", "TooLarge(limit)",
        "UnknownPlayer(player)", "DuplicatePiece(name)", "InvalidWeights()", "InvalidWorths()", "InvalidAnswer()",
        "BrokenRule(player)", "NothingExpected()", "NothingLeft()", "ParseError(place)", "InvalidName(name)",
        "InUse(name)", "Cycle(name)", "Unfit(name)", "InvalidCommand(index)", "InvalidDocument(row)",
        "UnknownPiece(name)", "UnknownName(name)"],
    "ratios": [
        "reduced(numerator, denominator)", "is_fraction(value)", "plus(*parts)", "times(*parts)", "total(parts)",
        "negative(part)", "order(one, other)", "ratio_text(part)", "parse_ratio(text)"],
    "statements": [
        "MOST_PLAYERS", "MOST_STATEMENTS", "MOST_BRANCHES", "MOST_PIECES", "is_piece(text)", "is_plain(text)",
        "ways_through(statements)"],
    "branches": [
        "Branch", "Branch.links(self)", "Branch.holders(self)", "Branch.equations(self, player, known=())",
        "Branch.comparisons(self, player)", "Branch.weighted(self, weights)"],
    "schemes": [
        "Scheme(players, statements)", "Scheme.PLAYERS", "Scheme.STATEMENTS", "Scheme.BRANCHES", "Scheme.PIECES",
        "Scheme.read(cls, text)", "Scheme.statements(self)", "Scheme.text(self)", "Scheme.branches(self)",
        "Scheme.__len__(self)", "Scheme.__eq__(self, other)", "Scheme.__repr__(self)", "own_weights(scheme, player)",
        "lead_weights(scheme, one, other)"],
    "tableau": ["least(equations, comparisons, weights)"],
    "sheets": [
        "Sheet(equal, above)", "Sheet.numbers(self)", "Sheet.fits(self, branch, player, known=())",
        "Sheet.totals(self, branch, player, known=())", "Bound(equal, above, value)", "Bound.numbers(self)",
        "Bound.holds(self, branch, player, weights, *, known=())", "Shut(equal, above, player)", "Shut.numbers(self)",
        "Shut.holds(self, branch, *, known=())"],
    "grains": [
        "split_flow(branch, point)", "is_way(branch, way)", "worths_of(branch, grains, player)",
        "keeps(branch, player, point)", "are_grains(branch, players, grains)"],
    "sure": [
        "Answer", "sure(scheme, player, weights=None, *, honest=False)", "lead(scheme, one, other, *, honest=False)",
        "span(scheme, player, *, honest=False)",
        "check_sheets(scheme, player, weights, value, sheets, *, honest=False)",
        "check_grains(scheme, player, weights, value, place, grains, *, honest=False)"],
    "runs": [
        "MOST_SORTS", "Run(scheme, worths, *, keepers=())", "Run.SORTS",
        "Run.replay(cls, scheme, place, grains, *, keepers=())", "Run.keepers", "Run.set_keepers(self, players)",
        "Run.awaited(self)", "Run.answer(self, value)", "Run.undo(self)", "Run.redo(self)", "Run.history(self)",
        "Run.clone(self)", "Run.told(self)", "Run.broken(self)", "Run.pieces(self)", "Run.worth(self, player, name)",
        "Run.share(self, player)", "Run.left(self)", "Run.sure_now(self, player, *, honest=False)",
        "Run.due_now(self, player)", "Run.__len__(self)", "Run.__eq__(self, other)"],
    "shelf": [
        "MOST_NAMES", "Shelf()", "Shelf.NAMES", "Shelf.define(self, name, players, statements)",
        "Shelf.drop(self, name)", "Shelf.define_text(self, name, text)", "Shelf.batch(self, *commands)",
        "Shelf.preview(self, *commands)", "Shelf.undo(self)", "Shelf.redo(self)", "Shelf.history(self)",
        "Shelf.clone(self)", "Shelf.listing(self)", "Shelf.in_order(self)", "Shelf.outline(self, name)",
        "Shelf.outline_text(self, name)", "Shelf.scheme(self, name)", "Shelf.users(self, name)",
        "Shelf.__len__(self)", "Shelf.__eq__(self, other)"],
    "documents": ["document(shelf)", "read_document(text)"],
    "console": [
        "Console(shelf=None)", "Console.execute(self, line)", "Console.shelf_there(self)", "Console.log(self)",
        "Console.__len__(self)"],
}
# These take a list instead of a generator where a class has an __eq__ of its own.
LISTED = ("all", "any", "max", "min", "sorted", "sum")


def files():
    return sorted(path for path in PACKAGE.rglob("*") if path.is_file() and path.suffix != ".pyc")


def trees():
    return [(path.name, ast.parse(path.read_text())) for path in files()]


def nodes(*kinds):
    return [(name, node) for name, tree in trees() for node in ast.walk(tree) if isinstance(node, kinds)]


def defined(tree):
    """The names that the statements of a file or a class define, imports left out."""
    names = {}
    for node in tree.body:
        if isinstance(node, (ast.FunctionDef, ast.ClassDef)):
            names[node.name] = node
        elif isinstance(node, ast.Assign):
            names[node.targets[0].id] = node
    return names


def bound(tree):
    """All names that a file gives a meaning to."""
    names = set()
    for node in ast.walk(tree):
        if isinstance(node, (ast.FunctionDef, ast.ClassDef)):
            names.add(node.name)
        elif isinstance(node, ast.arg):
            names.add(node.arg)
        elif isinstance(node, ast.Name) and not isinstance(node.ctx, ast.Load):
            names.add(node.id)
        elif isinstance(node, ast.ImportFrom):
            names.update(alias.asname or alias.name for alias in node.names)
        elif isinstance(node, (ast.ExceptHandler, ast.MatchAs, ast.MatchStar)) and node.name:
            names.add(node.name)
    return names


def methods(tree):
    classes = [node for node in ast.walk(tree) if isinstance(node, ast.ClassDef)]
    return {item.name for node in classes for item in node.body if isinstance(item, ast.FunctionDef)}


def find(tree, entry):
    """The definition that an entry of the interface names, of a method in the class itself."""
    for name in entry.partition("(")[0].split("."):
        tree = defined(tree)[name]
    return tree


def shown(node, entry):
    """A definition as the interface writes it, without its class."""
    return head(node) if "(" in entry else node.targets[0].id if isinstance(node, ast.Assign) else node.name


def stored(tree):
    """The names of the attributes that a file assigns."""
    return {node.attr for node in ast.walk(tree)
            if isinstance(node, ast.Attribute) and isinstance(node.ctx, ast.Store)}


def locals_of(function):
    """The names of the parameters and local variables of a function."""
    names = {node.arg for node in ast.walk(function) if isinstance(node, ast.arg)}
    return names | {node.id for node in ast.walk(function)
                    if isinstance(node, ast.Name) and isinstance(node.ctx, ast.Store)}


def head(node):
    """A definition as the interface writes it, with the parameters of a class's own __init__."""
    if isinstance(node, ast.ClassDef):
        first = [item for item in node.body if isinstance(item, ast.FunctionDef) and item.name == "__init__"][0]
        return f"{node.name}({', '.join(ast.unparse(first.args).split(', ')[1:])})"
    if isinstance(node, ast.FunctionDef):
        return f"{node.name}({ast.unparse(node.args)})"
    return node.targets[0].id


class FilesTest(unittest.TestCase):
    def test_names_of_files(self):
        for path in files():
            self.assertRegex(path.relative_to(PACKAGE).as_posix(), r"^([a-z][a-z0-9_]*|__init__|__main__)\.py$")

    def test_sizes_and_characters(self):
        for path in files():
            text = path.read_text()
            self.assertLessEqual(len(text.splitlines()), 399, path)
            for line in text.split("\n"):
                self.assertLessEqual(len(line), 120, (path, line))
                self.assertRegex(line, "^[ -~]*$", path)

    def test_sizes_of_functions(self):
        for name, node in nodes(ast.FunctionDef):
            self.assertLessEqual(node.end_lineno - node.lineno + 1, 40, (name, node.name))

    def test_barred_words(self):
        for path in files():
            self.assertIsNone(BARRED_WORDS.search(path.read_text()), path)


class NamesTest(unittest.TestCase):
    def test_plain_names(self):
        for name, tree in trees():
            for word in bound(tree):
                self.assertTrue(DUNDER.fullmatch(word) or not word.startswith("_"), (name, word))
                self.assertNotIn(word, BARRED_NAMES | BUILTINS, name)
            for word in bound(tree) - methods(tree):
                self.assertNotIn(word, dir(builtins), name)

    def test_names_that_are_read_are_known(self):
        for name, tree in trees():
            known = bound(tree) | BUILTINS
            for node in ast.walk(tree):
                if isinstance(node, ast.Name):
                    self.assertIn(node.id, known, name)

    def test_attributes_are_known(self):
        own = {node.attr for _, node in nodes(ast.Attribute) if isinstance(node.ctx, ast.Store)}
        own |= {node.name for _, node in nodes(ast.FunctionDef)}
        for name, node in nodes(ast.Attribute):
            self.assertIn(node.attr, own | METHODS | {"setter"}, name)

    def test_imports(self):
        there = {name: defined(tree) for name, tree in trees()}
        for name, node in nodes(ast.ImportFrom):
            self.assertEqual(node.level, 0, name)
            folder, _, source = node.module.partition(".")
            self.assertEqual(folder, "graincourse", name)
            for alias in node.names:
                self.assertIn(alias.name, there[source + ".py"], name)

    def test_interface(self):
        there = dict(trees())
        for module, entries in INTERFACE.items():
            for entry in entries:
                node = find(there[module + ".py"], entry)
                self.assertEqual(shown(node, entry), entry.rpartition(".")[2], module)

    def test_methods_are_no_attributes(self):
        # A property is assigned like an attribute.
        all_methods = {name for _, tree in trees() for name in methods(tree)} - {"keepers"}
        all_values = {item.targets[0].id for _, node in nodes(ast.ClassDef) for item in node.body
                      if isinstance(item, ast.Assign)}
        for name, tree in trees():
            self.assertFalse(stored(tree) & (all_methods | all_values), name)
        self.assertFalse(all_methods & all_values)

    def test_locals_hide_nothing(self):
        for name, tree in trees():
            taken = {alias.name for node in tree.body if isinstance(node, ast.ImportFrom) for alias in node.names}
            taken |= {node.name for node in tree.body if isinstance(node, ast.ClassDef)}
            for node in ast.walk(tree):
                if isinstance(node, ast.FunctionDef):
                    self.assertFalse(locals_of(node) & taken, (name, node.name))

    def test_generators(self):
        functions = [node for _, node in nodes(ast.FunctionDef)]
        names = [node.name for node in functions]
        for node in functions:
            if any(isinstance(inner, (ast.Yield, ast.YieldFrom)) for inner in ast.walk(node)):
                self.assertEqual(names.count(node.name), 1, node.name)


class StatementsTest(unittest.TestCase):
    def test_barred_nodes(self):
        for name, node in nodes(*BARRED_NODES):
            self.fail((name, ast.unparse(node)))

    def test_module_level(self):
        for name, tree in trees():
            for node in tree.body:
                plain = isinstance(node, (ast.FunctionDef, ast.ClassDef, ast.ImportFrom))
                text = isinstance(node, ast.Expr) and isinstance(node.value, ast.Constant)
                value = isinstance(node, ast.Assign) and len(node.targets) == 1
                self.assertTrue(plain or text or value, (name, ast.unparse(node)))

    def test_values(self):
        for name, node in nodes(ast.Constant):
            self.assertNotIsInstance(node.value, (float, complex), name)
            if isinstance(node.value, str):
                self.assertNotIn("%", node.value, name)

    def test_powers(self):
        for name, node in nodes(ast.BinOp):
            if isinstance(node.op, ast.Pow):
                self.assertIsInstance(node.right, ast.Constant, name)
                self.assertIn(node.right.value, range(65), name)

    def test_lists_instead_of_generators(self):
        for name, node in nodes(ast.Call):
            if isinstance(node.func, ast.Name) and node.func.id in LISTED:
                for argument in node.args:
                    self.assertNotIsInstance(argument, ast.GeneratorExp, (name, node.lineno))
            if isinstance(node.func, ast.Attribute):
                self.assertNotEqual(node.func.attr, "sort", (name, node.lineno))

    def test_class_values(self):
        for name, node in nodes(ast.ClassDef):
            for item in node.body:
                if isinstance(item, ast.Assign):
                    self.assertIsInstance(item.value, ast.Constant, (name, node.name))

    def test_is(self):
        for name, node in nodes(ast.Compare):
            for sign, value in zip(node.ops, node.comparators):
                if isinstance(sign, (ast.Is, ast.IsNot)):
                    self.assertIn(ast.unparse(value), ("None", "True", "False"), name)


if __name__ == "__main__":
    unittest.main()
