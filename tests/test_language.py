"""The package keeps to the plain part of Python: the rules that are easy to see."""

import ast
import pathlib
import re
import unittest

PACKAGE = pathlib.Path(__file__).resolve().parent.parent / "timecourt"

OWN_NAMES = set("""len range enumerate zip min max sum abs sorted reversed int str bool bytes list tuple dict set frozenset
    isinstance ord repr any all divmod Exception ValueError TypeError KeyError IndexError LookupError ZeroDivisionError
    ArithmeticError OverflowError RuntimeError NotImplementedError AttributeError StopIteration""".split())

PYTHON_NAMES = set(dir(__builtins__) if not isinstance(__builtins__, dict) else __builtins__)

BARRED_WORDS = re.compile(r"\b(type|typing|typing_extensions|enum|Enum|IntEnum|StrEnum|Flag|IntFlag|Generic|Protocol|ABC"
                          r"|ABCMeta|namedtuple|NamedTuple|TypedDict|TYPE_CHECKING|abstractmethod)\b"
                          r"|dataclass|overload|contextmanager")

BARRED_FORMS = (ast.With, ast.Match, ast.Global, ast.Nonlocal, ast.Yield, ast.YieldFrom, ast.AsyncFunctionDef, ast.AsyncFor,
                ast.AsyncWith, ast.Await, ast.GeneratorExp, ast.NamedExpr, ast.Div, ast.MatMult)

PLAIN = ("None", "True", "False")

WALKERS = ("list", "tuple", "dict", "sorted", "sum", "any", "all", "enumerate", "zip", "bytes", "min", "max", "join")

TOP_FORMS = (ast.ImportFrom, ast.FunctionDef, ast.ClassDef, ast.Assign, ast.AnnAssign)


def files():
    return sorted(path for path in PACKAGE.rglob("*") if "__pycache__" not in path.parts)


def trees():
    return [(path, ast.parse(path.read_text("utf-8"))) for path in files()]


def nodes():
    return [(path, node) for path, tree in trees() for node in ast.walk(tree)]


def below():
    """Each node with the one straight above it."""
    return [(path, node, above) for path, above in nodes() for node in ast.iter_child_nodes(above)]


def name_of(func):
    return func.id if isinstance(func, ast.Name) else func.attr if isinstance(func, ast.Attribute) else None


class Language(unittest.TestCase):
    def wrong(self, path, node, rule):
        self.fail(f"{path.name}:{getattr(node, 'lineno', 0)}: {rule}")

    def test_files(self):
        self.assertIn(PACKAGE / "__init__.py", files())
        for path in files():
            self.assertRegex(path.name, r"^[a-z0-9_]+\.py$", "L1, L14")

    def test_signs_and_sizes(self):
        for path in files():
            text = path.read_bytes().decode("ascii")
            self.assertNotRegex(text, r"[^ -~\n]", f"{path.name}: L14")
            rows = text.split("\n")
            self.assertLessEqual(len(rows), 400, f"{path.name}: L10")
            self.assertLessEqual(max(len(row) for row in rows), 120, f"{path.name}: L10")

    def test_barred_words(self):
        for path in files():
            self.assertNotRegex(path.read_text("utf-8"), BARRED_WORDS, f"{path.name}: L17")

    def test_imports(self):
        for path, node in nodes():
            if isinstance(node, ast.ImportFrom):
                if node.level or not (node.module.startswith("timecourt.") or node.module == "__future__"):
                    self.wrong(path, node, "L2")
                if any(name.name == "*" for name in node.names):
                    self.wrong(path, node, "L2")

    def test_top_of_a_file(self):
        for path, tree in trees():
            for place, node in enumerate(tree.body):
                docstring = place == 0 and isinstance(node, ast.Expr) and isinstance(node.value, ast.Constant)
                if not docstring and not isinstance(node, TOP_FORMS):
                    self.wrong(path, node, "L3")

    def test_sizes_of_functions(self):
        for path, node in nodes():
            if isinstance(node, ast.FunctionDef):
                if node.end_lineno - node.lineno + 1 > 40:
                    self.wrong(path, node, "L10")
                if node.decorator_list or node.args.vararg or node.args.kwarg or node.args.posonlyargs:
                    self.wrong(path, node, "L4")

    def test_barred_forms(self):
        for path, node in nodes():
            if isinstance(node, BARRED_FORMS):
                self.wrong(path, node, f"L6, L7: {type(node).__name__}")
            if isinstance(node, (ast.For, ast.While)) and node.orelse:
                self.wrong(path, node, "L6")
            if isinstance(node, ast.Constant) and isinstance(node.value, (float, complex)):
                self.wrong(path, node, "L7")
            if isinstance(node, ast.Constant) and isinstance(node.value, str) and "%" in node.value:
                self.wrong(path, node, "L27")

    def test_names(self):
        for path, node in nodes():
            if isinstance(node, ast.Name):
                if isinstance(node.ctx, ast.Load) and node.id in PYTHON_NAMES and node.id not in OWN_NAMES:
                    self.wrong(path, node, f"L8: {node.id}")
                if isinstance(node.ctx, ast.Store) and (node.id in PYTHON_NAMES or node.id.startswith("_")):
                    self.wrong(path, node, f"L12, L15: {node.id}")
            if isinstance(node, ast.arg) and (node.arg in PYTHON_NAMES or node.arg.startswith("_")):
                self.wrong(path, node, f"L12, L15: {node.arg}")
            if isinstance(node, ast.Attribute) and node.attr.startswith("_") and node.attr != "__init__":
                self.wrong(path, node, f"L12: {node.attr}")

    def test_locals_are_not_called_like_imports_or_classes(self):
        for path, tree in trees():
            taken = {name.name for node in tree.body if isinstance(node, ast.ImportFrom) for name in node.names}
            taken |= {node.name for node in tree.body if isinstance(node, ast.ClassDef)}
            for node in ast.walk(tree):
                stored = isinstance(node, ast.Name) and isinstance(node.ctx, ast.Store) and node.id in taken
                if stored or isinstance(node, ast.arg) and node.arg in taken:
                    self.wrong(path, node, "L15")

    def test_names_are_drawn_from_their_own_files_and_in_no_circle(self):
        own = {path.stem: {getattr(node, "name", None) or node.targets[0].id for node in tree.body
                           if isinstance(node, (ast.FunctionDef, ast.ClassDef, ast.Assign))} for path, tree in trees()}
        drawn = {path.stem: set() for path in files()}
        for path, node in nodes():
            if isinstance(node, ast.ImportFrom) and node.module != "__future__":
                stem = node.module.partition(".")[2]
                drawn[path.stem].add(stem)
                for name in node.names:
                    self.assertIn(name.name, own[stem], f"{path.name}: L16")
        while drawn:
            free = [stem for stem in drawn if not drawn[stem] & set(drawn)]
            self.assertTrue(free, f"L16: {sorted(drawn)}")
            for stem in free:
                del drawn[stem]

    def test_is_beside_none_true_false(self):
        for path, node in nodes():
            if isinstance(node, ast.Compare) and any(isinstance(sign, (ast.Is, ast.IsNot)) for sign in node.ops):
                beside = [node.left] + node.comparators
                if not any(isinstance(thing, ast.Constant) and repr(thing.value) in PLAIN for thing in beside):
                    self.wrong(path, node, "L20")

    def test_methods_and_values(self):
        methods = {one.name for _, node in nodes() if isinstance(node, ast.ClassDef)
                   for one in node.body if isinstance(one, ast.FunctionDef)}
        values = {node.attr: (path, node) for path, node in nodes()
                  if isinstance(node, ast.Attribute) and isinstance(node.ctx, ast.Store)}
        taken = {name for kind in (str, int, list, tuple, dict, set, bytes) for name in dir(kind)}
        for name in (methods | set(values)) - {"__init__"}:
            self.assertNotIn(name, taken, "L26")
        for name, (path, node) in values.items():
            if name in methods:
                self.wrong(path, node, f"L18: {name}")

    def test_texts_in_braces_have_no_format(self):
        for path, node in nodes():
            if isinstance(node, ast.FormattedValue) and node.format_spec is not None:
                self.wrong(path, node, "L7")

    def test_powers_have_written_exponents(self):
        for path, node in nodes():
            if isinstance(node, ast.BinOp) and isinstance(node.op, ast.Pow) and not isinstance(node.right, ast.Constant):
                self.wrong(path, node, "L27")

    def test_walked_at_once(self):
        walked = ("zip", "range", "enumerate", "reversed", "items", "keys", "values")
        for path, node, above in below():
            if isinstance(node, ast.Call) and name_of(node.func) in walked:
                looped = isinstance(above, (ast.For, ast.comprehension)) and above.iter is node
                first = isinstance(above, ast.Call) and name_of(above.func) in WALKERS and above.args[:1] == [node]
                if not looped and not first:
                    self.wrong(path, node, "L23")

    def test_sets(self):
        for path, node, above in below():
            if isinstance(node, (ast.Set, ast.SetComp)) or isinstance(node, ast.Call) and name_of(node.func) == "set":
                within = isinstance(above, ast.Call) and name_of(above.func) in ("sorted", "len")
                if not within and not isinstance(above, (ast.Compare, ast.Assign)):
                    self.wrong(path, node, "L24")


if __name__ == "__main__":
    unittest.main()
