"""Looks at the package's own files by the rules of LANGUAGE.md that can be seen in the text."""

import ast
import builtins
import pathlib
import re
import unittest

PACKAGE = pathlib.Path(__file__).resolve().parent.parent / "holdlane"
OWN_NAMES = """len range enumerate zip min max sum abs sorted reversed int str bool list tuple dict set frozenset isinstance
ord repr any all divmod Exception ValueError TypeError KeyError IndexError LookupError ZeroDivisionError ArithmeticError
OverflowError RuntimeError NotImplementedError AttributeError StopIteration""".split()
OWN_METHODS = """append clear copy count endswith extend find get index insert isalnum isalpha isdigit islower isspace
isupper items join keys ljust lower lstrip partition pop remove replace reverse rfind rjust rpartition rsplit rstrip
setdefault split splitlines startswith strip update upper values zfill bit_length""".split()
DOUBLE_METHODS = ["__init__", "__eq__", "__repr__", "__str__", "__len__"]
WORDS_NOWHERE = """type typing typing_extensions enum Enum IntEnum StrEnum Flag IntFlag Generic Protocol ABC ABCMeta
namedtuple NamedTuple TypedDict TYPE_CHECKING abstractmethod""".split()
NAMES_NOWHERE = ["register", "mro", "elements", "open", "input", "version_info", "with_traceback", "add_note"]
NODES = (
    ast.Module, ast.FunctionDef, ast.ClassDef, ast.arguments, ast.arg, ast.Import, ast.ImportFrom, ast.alias,
    ast.Assign, ast.AugAssign, ast.If, ast.While, ast.For, ast.Return, ast.Break, ast.Continue, ast.Pass, ast.Raise,
    ast.Try, ast.ExceptHandler, ast.Expr, ast.Constant, ast.List, ast.Tuple, ast.Dict, ast.BinOp, ast.BoolOp,
    ast.UnaryOp, ast.Compare, ast.IfExp, ast.Call, ast.keyword, ast.Attribute, ast.Subscript, ast.Slice, ast.Name,
    ast.ListComp, ast.comprehension, ast.JoinedStr, ast.FormattedValue, ast.Lambda,
    ast.expr_context, ast.operator, ast.unaryop, ast.boolop, ast.cmpop,
)
WALKED = ["zip", "enumerate", "reversed", "range", "items", "keys", "values"]
WALKERS = ["list", "tuple", "dict", "sorted", "sum", "any", "all", "enumerate", "zip", "min", "max"]
PYTHONS_OWN = [str, int, list, dict, tuple, set, bytes]


def sources():
    return sorted(PACKAGE.glob("*.py"))


def trees():
    return [(path, ast.parse(path.read_text(encoding="ascii"))) for path in sources()]


def nodes(wanted):
    return [(path, node) for path, tree in trees() for node in ast.walk(tree) if isinstance(node, wanted)]


def is_plain(node, functions):
    if isinstance(node, (ast.List, ast.Tuple)):
        return all(is_plain(part, functions) for part in node.elts)
    if isinstance(node, ast.Dict):
        return all(is_plain(part, functions) for part in node.keys + node.values)
    if isinstance(node, ast.Name):
        return node.id in functions
    return isinstance(node, ast.Constant) and isinstance(node.value, (int, str, type(None)))


def drawn_from(tree):
    return [node.module.split(".")[1] for node in ast.walk(tree) if isinstance(node, ast.ImportFrom)]


class Language(unittest.TestCase):
    def check(self, path, node, holds, rule):
        self.assertTrue(holds, f"{rule} {path.name}:{getattr(node, 'lineno', 0)}")

    def test_files(self):
        self.assertTrue((PACKAGE / "__init__.py").is_file())
        for path in PACKAGE.iterdir():
            if path.name != "__pycache__":
                self.check(path, None, re.fullmatch(r"(__init__|[a-z][a-z0-9_]*)\.py", path.name), "L1, L14")

    def test_signs_and_sizes(self):
        for path in sources():
            text = path.read_text(encoding="utf-8")
            self.check(path, None, all(sign == "\n" or " " <= sign <= "~" for sign in text), "L14")
            self.check(path, None, len(text.splitlines()) <= 400, "L10")
            self.check(path, None, all(len(line) <= 120 for line in text.splitlines()), "L10")
            for word in WORDS_NOWHERE:
                self.check(path, None, not re.search(rf"\b{word}\b", text), f"L17 {word}")
            self.check(path, None, not re.search("dataclass|overload|contextmanager", text), "L17")

    def test_only_nodes_that_are_let_by(self):
        for path, node in nodes(ast.AST):
            self.check(path, node, isinstance(node, NODES), f"L6, L7 {node}")
            self.check(path, node, not isinstance(node, (ast.Div, ast.MatMult)), "L7")

    def test_imports(self):
        known = {path.stem: tree for path, tree in trees()}
        for path, node in nodes((ast.Import, ast.ImportFrom)):
            self.check(path, node, isinstance(node, ast.ImportFrom) and node.level == 0, "L16")
            package, dot, module = node.module.partition(".")
            self.check(path, node, package == "holdlane" and module in known, "L2")
            bound = [top.name for top in known[module].body if isinstance(top, (ast.FunctionDef, ast.ClassDef))]
            bound += [top.targets[0].id for top in known[module].body if isinstance(top, ast.Assign)]
            self.check(path, node, all(name.name in bound and name.asname is None for name in node.names), "L16")

    def test_no_two_files_draw_from_one_another(self):
        draws = {path.stem: drawn_from(tree) for path, tree in trees()}
        while draws:
            free = [name for name in draws if not [other for other in draws[name] if other in draws]]
            self.assertTrue(free, f"L16 {sorted(draws)}")
            draws = {name: draws[name] for name in draws if name not in free}

    def test_the_top_of_a_file(self):
        for path, tree in trees():
            functions = [node.name for node in tree.body if isinstance(node, ast.FunctionDef)]
            bound = []
            for place, node in enumerate(tree.body):
                if isinstance(node, ast.Assign):
                    self.check(path, node, is_plain(node.value, functions), "L3")
                    bound.append(node.targets[0].id)
                elif isinstance(node, ast.Expr):
                    self.check(path, node, place == 0 and isinstance(node.value, ast.Constant), "L3")
                else:
                    self.check(path, node, isinstance(node, (ast.ImportFrom, ast.FunctionDef, ast.ClassDef)), "L3")
                    bound += [name.name for name in getattr(node, "names", [])] + [getattr(node, "name", None)]
            names = [name for name in bound if name is not None]
            self.check(path, None, len(names) == len(set(names)), "L15")

    def test_functions(self):
        for path, node in nodes(ast.FunctionDef):
            self.check(path, node, node.end_lineno - node.lineno < 40, "L10")
            self.check(path, node, not node.decorator_list and node.returns is None, "L4, L21")
            form = node.args
            self.check(path, node, not (form.vararg or form.kwarg or form.kwonlyargs or form.posonlyargs), "L4")
            for arg in form.args:
                self.check(path, node, arg.annotation is None and not hasattr(builtins, arg.arg), "L15, L21")

    def test_classes(self):
        methods, values = set(), set()
        for path, node in nodes(ast.ClassDef):
            self.check(path, node, len(node.bases) <= 1 and not node.keywords and not node.decorator_list, "L5")
            names = [part.name for part in node.body if isinstance(part, ast.FunctionDef)]
            self.check(path, node, all(isinstance(part, (ast.FunctionDef, ast.Pass)) for part in node.body), "L5")
            self.check(path, node, len(names) == len(set(names)), "L18")
            methods.update(names)
        for path, node in nodes(ast.Attribute):
            if isinstance(node.ctx, ast.Store):
                values.add(node.attr)
        self.assertEqual(methods & values, set(), "L18")

    def test_classes_are_not_kept_or_handed_on(self):
        known = [node.name for path, node in nodes(ast.ClassDef)]
        for path, tree in trees():
            fine = set()
            for node in ast.walk(tree):
                if isinstance(node, ast.Call):
                    fine.add(node.func)
                    if isinstance(node.func, ast.Name) and node.func.id == "isinstance":
                        fine.update(ast.walk(node.args[1]))
                if isinstance(node, ast.ClassDef):
                    fine.update(node.bases)
                if isinstance(node, ast.ExceptHandler):
                    fine.update(ast.walk(node.type))
                if isinstance(node, ast.Attribute) and node.attr == "__init__":
                    fine.add(node.value)
            for node in ast.walk(tree):
                if isinstance(node, ast.Name) and node.id in known:
                    self.check(path, node, node in fine, f"L18 {node.id}")

    def test_names(self):
        for path, node in nodes((ast.Name, ast.Attribute, ast.arg, ast.FunctionDef, ast.ClassDef)):
            name = [getattr(node, field) for field in ("id", "attr", "arg", "name") if hasattr(node, field)][0]
            self.check(path, node, not name.startswith("_") or name in DOUBLE_METHODS, f"L12 {name}")
            self.check(path, node, name not in NAMES_NOWHERE, f"L17 {name}")
            if isinstance(node, ast.Name) and hasattr(builtins, name):
                self.check(path, node, name in OWN_NAMES and isinstance(node.ctx, ast.Load), f"L8 {name}")

    def test_methods_of_pythons_own_values(self):
        for path, node in nodes(ast.Attribute):
            if any(hasattr(kind, node.attr) for kind in PYTHONS_OWN) and node.attr not in DOUBLE_METHODS:
                self.check(path, node, node.attr in OWN_METHODS, f"L25 {node.attr}")

    def test_forms(self):
        for path, node in nodes((ast.Assign, ast.Compare, ast.While, ast.For, ast.Constant, ast.ListComp)):
            if isinstance(node, ast.Assign):
                self.check(path, node, len(node.targets) == 1 and not isinstance(node.targets[0], ast.Tuple), "L6")
            if isinstance(node, ast.Compare) and any(isinstance(op, (ast.Is, ast.IsNot)) for op in node.ops):
                beside = [side for side in [node.left] + node.comparators if isinstance(side, ast.Constant)]
                self.check(path, node, any(side.value in (None, True, False) for side in beside), "L20")
            if isinstance(node, (ast.While, ast.For)):
                self.check(path, node, not node.orelse, "L6")
            if isinstance(node, ast.Constant):
                self.check(path, node, isinstance(node.value, (int, str, type(None))), "L7")
                self.check(path, node, not isinstance(node.value, str) or "%" not in node.value, "L27")
            if isinstance(node, ast.ListComp):
                self.check(path, node, len(node.generators) == 1 and len(node.generators[0].ifs) <= 1, "L7")

    def test_no_local_is_called_like_an_import_or_a_class(self):
        for path, tree in trees():
            tops = [name.name for node in tree.body if isinstance(node, ast.ImportFrom) for name in node.names]
            tops += [node.name for node in tree.body if isinstance(node, ast.ClassDef)]
            for node in ast.walk(tree):
                if isinstance(node, ast.arg) or isinstance(node, ast.Name) and isinstance(node.ctx, ast.Store):
                    self.check(path, node, getattr(node, "arg", getattr(node, "id", None)) not in tops, "L15")

    def test_what_is_walked_at_once(self):
        for path, tree in trees():
            fine = set()
            for node in ast.walk(tree):
                if isinstance(node, (ast.For, ast.comprehension)):
                    fine.add(node.iter)
                if isinstance(node, ast.Call) and isinstance(node.func, ast.Name) and node.func.id in WALKERS:
                    fine.update(node.args)
            for node in ast.walk(tree):
                name = getattr(getattr(node, "func", None), "id", getattr(getattr(node, "func", None), "attr", None))
                if isinstance(node, ast.Call) and name in WALKED:
                    self.check(path, node, node in fine, f"L23 {name}")

    def test_f_strings(self):
        for path, node in nodes(ast.FormattedValue):
            self.check(path, node, isinstance(node.value, ast.Name) and node.format_spec is None, "L7")


if __name__ == "__main__":
    unittest.main()
