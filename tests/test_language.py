"""The package's files keep to the small part of Python that the program is written in.

The numbers are those of the rules. What can be seen in a file's form is looked at, as far as the program uses it; it
does without classes, errors of its own, sets, lambdas, f-strings, keywords and annotations so far.
"""

import ast
import builtins
import pathlib
import re
import unittest

PACKAGE = pathlib.Path(__file__).resolve().parent.parent / "fairround"

PYTHONS_OWN = set(
    "len range enumerate zip min max sum abs sorted reversed int str bool list tuple dict isinstance ord repr any all"
    " divmod".split()
)
METHODS = set(
    "append clear copy count endswith extend find get index insert isalnum isalpha isdigit islower isspace isupper"
    " items join keys ljust lower lstrip partition pop remove replace reverse rfind rjust rpartition rsplit rstrip"
    " setdefault split splitlines startswith strip update upper values zfill bit_length".split()
)
WORDS = re.compile(
    r"\b(type|typing|typing_extensions|enum|Enum|IntEnum|StrEnum|Flag|IntFlag|Generic|Protocol|ABC|ABCMeta|namedtuple"
    r"|NamedTuple|TypedDict|TYPE_CHECKING|abstractmethod)\b|dataclass|overload|contextmanager"
)
UNUSED = set(
    "register mro elements open input version_info with_traceback add_note attrgetter breakpoint builtins compile"
    " copyright credits delattr dir eval exec exit gc getattr globals hasattr help id importlib license locals"
    " methodcaller os quit setattr super sys vars".split()
)
CHANGES = set("append clear extend insert pop remove reverse setdefault update".split())
WALKED = set("zip enumerate reversed range items keys values".split())
WALKERS = set("list tuple dict sorted sum any all enumerate zip min max join".split())
NODES = (
    ast.Module, ast.FunctionDef, ast.arguments, ast.arg, ast.ImportFrom, ast.alias,
    ast.Assign, ast.AugAssign, ast.If, ast.While, ast.For, ast.Return, ast.Break, ast.Continue, ast.Pass, ast.Expr,
    ast.Constant, ast.Name, ast.List, ast.Tuple, ast.Dict, ast.BinOp, ast.UnaryOp, ast.BoolOp, ast.Compare, ast.IfExp,
    ast.Call, ast.Attribute, ast.Subscript, ast.Slice, ast.ListComp, ast.comprehension,
    ast.operator, ast.unaryop, ast.boolop, ast.cmpop, ast.expr_context,
)


def files():
    """The package's files, but for what Python itself leaves there."""
    return [path for path in sorted(PACKAGE.rglob("*")) if "__pycache__" not in path.parts]


def trees():
    return [(path.name, ast.parse(path.read_text("ascii"))) for path in files()]


def nodes(kind):
    """All nodes of a kind, with the place where each stands."""
    for name, tree in trees():
        for node in ast.walk(tree):
            if isinstance(node, kind):
                yield f"{name}:{getattr(node, 'lineno', 0)}", node


def called_name(node):
    """The name that a call calls, be it a function's or a method's."""
    return node.func.attr if isinstance(node.func, ast.Attribute) else node.func.id


def walked_names(walked):
    """The names of what a loop walks, be it through zip and its like; what other calls give back has none."""
    if isinstance(walked, ast.Call):
        if called_name(walked) not in WALKED - {"range"}:
            return set()
        parts = walked.args + ([walked.func.value] if isinstance(walked.func, ast.Attribute) else [])
        return set().union(*[walked_names(part) for part in parts])
    return {part.id for part in ast.walk(walked) if isinstance(part, ast.Name)}


def changed_names(loop):
    """The names whose parts are changed within a loop."""
    for node in ast.walk(loop):
        part = None
        if isinstance(node, ast.Subscript) and isinstance(node.ctx, ast.Store):
            part = node.value
        elif isinstance(node, ast.Call) and isinstance(node.func, ast.Attribute) and node.func.attr in CHANGES:
            part = node.func.value
        while isinstance(part, ast.Subscript):
            part = part.value
        if isinstance(part, ast.Name):
            yield part.id


class FileTest(unittest.TestCase):
    def test_names_of_files(self):
        for path in files():
            self.assertRegex(path.name, r"^(__init__|[a-z][a-z0-9_]*)\.py$", "L1, L14")
            self.assertNotIn(path.stem, dir(builtins), "L14")
        self.assertTrue((PACKAGE / "__init__.py").is_file(), "L14")

    def test_signs_words_and_size(self):
        for path in files():
            text = path.read_bytes().decode("ascii")
            self.assertRegex(text, r"\A[ -~\n]*\Z", f"L14 {path.name}")
            self.assertIsNone(WORDS.search(text), f"L17 {path.name}")
            lines = text.splitlines()
            self.assertLessEqual(len(lines), 400, f"L10 {path.name}")
            self.assertLessEqual(max(len(line) for line in lines), 120, f"L10 {path.name}")


class FormTest(unittest.TestCase):
    def test_only_what_the_language_has(self):
        for place, node in nodes(ast.AST):
            self.assertIsInstance(node, NODES, f"L4, L6, L7 {place}")

    def test_the_top_of_files(self):
        for name, tree in trees():
            bound = [node.name for node in tree.body if isinstance(node, ast.FunctionDef)]
            for number, node in enumerate(tree.body):
                if isinstance(node, ast.Assign):
                    self.assertIsInstance(node.value, ast.Constant, f"L3 {name}:{node.lineno}")
                    bound.append(node.targets[0].id)
                elif isinstance(node, ast.Expr):
                    self.assertEqual(number, 0, f"L3 {name}:{node.lineno}")
                else:
                    self.assertIsInstance(node, (ast.ImportFrom, ast.FunctionDef), f"L3 {name}:{node.lineno}")
            self.assertEqual(len(bound), len(set(bound)), f"L15 {name}")

    def test_imports(self):
        stems = [path.stem for path in files()]
        for place, node in nodes(ast.ImportFrom):
            self.assertEqual(node.level, 0, f"L2 {place}")
            self.assertIn(node.module, [f"fairround.{stem}" for stem in stems], f"L2 {place}")
            defined = [line.name for line in ast.parse((PACKAGE / f"{node.module[10:]}.py").read_text()).body
                       if isinstance(line, ast.FunctionDef)]
            for alias in node.names:
                self.assertIn(alias.name, defined, f"L16 {place}")

    def test_no_two_files_draw_from_one_another(self):
        drawn = {name: {node.module[10:] + ".py" for node in tree.body if isinstance(node, ast.ImportFrom)}
                 for name, tree in trees()}
        while drawn:
            free = [name for name, others in drawn.items() if not others & set(drawn)]
            self.assertNotEqual(free, [], f"L16 {sorted(drawn)}")
            drawn = {name: others for name, others in drawn.items() if name not in free}

    def test_functions(self):
        for place, node in nodes(ast.FunctionDef):
            self.assertLessEqual(node.end_lineno - node.lineno + 1, 40, f"L10 {place}")
            self.assertEqual(node.decorator_list, [], f"L4 {place}")
            self.assertIsNone(node.returns, f"L21 {place}")
            rest = (node.args.vararg, node.args.kwarg, node.args.kwonlyargs, node.args.posonlyargs)
            self.assertEqual(rest, (None, None, [], []), f"L4 {place}")

    def test_statements(self):
        for place, node in nodes((ast.For, ast.While)):
            self.assertEqual(node.orelse, [], f"L6 {place}")
        for place, node in nodes(ast.Assign):
            self.assertEqual(len(node.targets), 1, f"L6 {place}")
            self.assertNotIsInstance(node.targets[0], (ast.Tuple, ast.List), f"L6 {place}")

    def test_expressions(self):
        for place, node in nodes(ast.ListComp):
            self.assertEqual(len(node.generators), 1, f"L7 {place}")
            self.assertLessEqual(len(node.generators[0].ifs), 1, f"L7 {place}")
        for place, node in nodes(ast.Constant):
            self.assertIsInstance(node.value, (int, str, type(None)), f"L7 {place}")
        for place, node in nodes((ast.BinOp, ast.AugAssign)):
            self.assertNotIsInstance(node.op, (ast.Div, ast.Pow, ast.MatMult), f"L7, L27 {place}")
        for place, node in nodes(ast.Compare):
            for operator, side in zip(node.ops, node.comparators):
                if isinstance(operator, (ast.Is, ast.IsNot)):
                    self.assertIn(ast.unparse(side), ("None", "True", "False"), f"L20 {place}")

    def test_texts(self):
        for place, node in nodes(ast.Constant):
            if isinstance(node.value, str):
                self.assertNotIn("%", node.value, f"L27 {place}")
        for path in files():
            self.assertNotIn("\\", path.read_text("ascii"), f"L27 {path.name}")

    def test_walked_at_once(self):
        for name, tree in trees():
            walked = [node.iter for node in ast.walk(tree) if isinstance(node, (ast.For, ast.comprehension))]
            calls = [node for node in ast.walk(tree) if isinstance(node, ast.Call)]
            walked += [node.args[0] for node in calls if node.args and called_name(node) in WALKERS]
            for node in calls:
                if called_name(node) in WALKED:
                    self.assertIn(node, walked, f"L23 {name}:{node.lineno}")

    def test_what_is_walked_is_not_changed(self):
        for place, loop in nodes(ast.For):
            self.assertEqual(walked_names(loop.iter) & set(changed_names(loop)), set(), f"L23 {place}")


class NameTest(unittest.TestCase):
    def test_names(self):
        for place, node in nodes((ast.Name, ast.arg, ast.FunctionDef)):
            name = getattr(node, "id", None) or getattr(node, "arg", None) or node.name
            self.assertRegex(name, r"^[A-Za-z][A-Za-z0-9_]*$", f"L12 {place}")
            self.assertNotIn(name, UNUSED, f"L17 {place}")
            if name in dir(builtins):
                self.assertIsInstance(node, ast.Name, f"L15 {place}")
                self.assertIsInstance(node.ctx, ast.Load, f"L15 {place}")
                self.assertIn(name, PYTHONS_OWN, f"L8 {place}")

    def test_locals_are_not_called_like_what_the_file_has(self):
        for name, tree in trees():
            top = [node.name for node in tree.body if isinstance(node, ast.FunctionDef)]
            top += [alias.name for node in tree.body if isinstance(node, ast.ImportFrom) for alias in node.names]
            for function in ast.walk(tree):
                if isinstance(function, ast.FunctionDef):
                    used = [node.arg for node in ast.walk(function) if isinstance(node, ast.arg)]
                    used += [node.id for node in ast.walk(function)
                             if isinstance(node, ast.Name) and isinstance(node.ctx, ast.Store)]
                    self.assertEqual(set(used) & set(top), set(), f"L15 {name} {function.name}")

    def test_methods_are_called_where_they_stand(self):
        called = [node.func for _, node in nodes(ast.Call)]
        for place, node in nodes(ast.Attribute):
            self.assertIn(node.attr, METHODS, f"L25 {place}")
        self.assertTrue(all(isinstance(func, (ast.Name, ast.Attribute)) for func in called), "L25")

    def test_no_keywords_at_pythons_own(self):
        for place, node in nodes(ast.Call):
            self.assertEqual(node.keywords, [], f"L22 {place}")
