"""The rules of LANGUAGE.md that a plain look at the files of the package can tell."""

import ast
import builtins
import pathlib
import re
import unittest

PACKAGE = pathlib.Path(__file__).parent.parent / "makerlines"
FILES = sorted(PACKAGE.glob("*.py"))
TREES = {path: ast.parse(path.read_text()) for path in FILES}
BARRED_WORDS = re.compile(
    r"\b(type|typing|typing_extensions|enum|Enum|IntEnum|StrEnum|Flag|IntFlag|Generic|Protocol|ABC|ABCMeta"
    r"|namedtuple|NamedTuple|TypedDict|TYPE_CHECKING|abstractmethod)\b|dataclass|overload|contextmanager"
)
BARRED_NAMES = {
    "register", "mro", "elements", "open", "input", "law", "attrgetter", "compile", "copyright", "credits",
    "dir", "eval", "exec", "exit", "gc", "getattr", "globals", "hasattr", "help", "id", "license", "locals",
    "os", "quit", "setattr", "super", "vars", "sys",
}
BARRED_NODES = (
    ast.Global, ast.AsyncFunctionDef, ast.Await, ast.Yield, ast.YieldFrom, ast.GeneratorExp, ast.Lambda,
    ast.SetComp, ast.Div, ast.Match, ast.With, ast.Try, ast.Import, ast.AnnAssign,
)
CALLED_BUILTINS = {
    "len", "range", "enumerate", "zip", "min", "max", "sum", "abs", "sorted", "reversed", "int", "str", "bool",
    "list", "tuple", "dict", "set", "isinstance", "ord", "repr", "any", "all", "divmod", "iter",
}
CLASS_METHODS = {"__init__", "__eq__", "__len__", "__iter__", "__contains__", "__getitem__"}
CHANGING_METHODS = {
    "append", "clear", "extend", "insert", "pop", "remove", "reverse", "setdefault", "update", "sort", "add", "discard",
}
COMPREHENSIONS = (ast.ListComp, ast.DictComp, ast.SetComp, ast.GeneratorExp)


def nodes(*kinds):
    return [(path, node) for path, tree in TREES.items() for node in ast.walk(tree) if isinstance(node, kinds)]


class Language(unittest.TestCase):
    def test_files(self):
        """L1, L10, L14"""
        for path in PACKAGE.iterdir():
            self.assertTrue(path.name == "__pycache__" or re.fullmatch(r"[a-z_]+\.py", path.name), path)
        for path in FILES:
            text = path.read_text()
            self.assertTrue(all(32 <= ord(sign) <= 126 or sign == "\n" for sign in text), path)
            self.assertLessEqual(len(text.splitlines()), 399, path)
            self.assertLessEqual(max(len(line) for line in text.splitlines()), 120, path)

    def test_functions_are_small(self):
        """L10"""
        for path, node in nodes(ast.FunctionDef):
            self.assertLessEqual(node.end_lineno - node.lineno + 1, 40, f"{path} {node.name}")

    def test_barred_words(self):
        """L17, L27"""
        for path in FILES:
            self.assertIsNone(BARRED_WORDS.search(path.read_text()), path)
        for path, node in nodes(ast.Constant):
            self.assertNotIn("%", node.value if isinstance(node.value, str) else "", path)

    def test_names(self):
        """L8, L12, L15, L17"""
        for path, node in nodes(ast.Name, ast.arg, ast.FunctionDef, ast.ClassDef, ast.Attribute):
            name = getattr(node, "id", None) or getattr(node, "arg", None) or getattr(node, "name", None) or node.attr
            stored = not isinstance(getattr(node, "ctx", None), ast.Load)
            if name not in CLASS_METHODS:
                self.assertFalse(name.startswith("_"), f"{path} {name}")
            self.assertNotIn(name, BARRED_NAMES, path)
            if stored and isinstance(node, (ast.Name, ast.arg, ast.ClassDef)):
                self.assertFalse(hasattr(builtins, name), f"{path} {name}")

    def test_builtins(self):
        """L8"""
        for path, node in nodes(ast.Name):
            if hasattr(builtins, node.id):
                self.assertIn(node.id, CALLED_BUILTINS | {"ValueError", "staticmethod"}, path)

    def test_statements_and_expressions(self):
        """What the rules bar, and what this package does without."""
        self.assertEqual([(path.name, node.lineno) for path, node in nodes(*BARRED_NODES)], [])

    def test_is_only_with_none_true_and_false(self):
        """L20"""
        for path, node in nodes(ast.Compare):
            for sign, right in zip(node.ops, node.comparators):
                if isinstance(sign, (ast.Is, ast.IsNot)):
                    self.assertIsInstance(right, ast.Constant, path)

    def test_imports(self):
        """L2, L16: from the package alone, from the file that defines the name, never in a ring."""
        edges = {path.stem: set() for path in FILES}
        for path, node in nodes(ast.ImportFrom):
            self.assertRegex(node.module, r"^makerlines\.[a-z]+$")
            source = node.module.split(".")[1]
            edges[path.stem].add(source)
            self.assertLessEqual({x.name for x in node.names}, set(bound_names(TREES[PACKAGE / f"{source}.py"])))
            self.assertEqual([x.asname for x in node.names if x.asname], [])
        while edges:
            free = [stem for stem, needed in edges.items() if not needed & set(edges)]
            self.assertTrue(free, edges)
            edges = {stem: needed for stem, needed in edges.items() if stem not in free}

    def test_one_binding_at_module_level(self):
        """L3, L15"""
        for path, tree in TREES.items():
            names = bound_names(tree) + [x.name for node in tree.body if isinstance(node, ast.ImportFrom)
                                         for x in node.names]
            self.assertEqual(len(names), len(set(names)), path)
            self.assertEqual([name for name in names if hasattr(builtins, name)], [], path)
            rest = [node for node in tree.body[1:] if not isinstance(
                node, (ast.ImportFrom, ast.FunctionDef, ast.ClassDef, ast.Assign))]
            self.assertEqual(rest, [], path)

    def test_locals_are_not_named_like_classes_or_imports(self):
        """L15"""
        for path, tree in TREES.items():
            taken = {x.name for node in tree.body if isinstance(node, ast.ImportFrom) for x in node.names}
            taken |= {node.name for node in tree.body if isinstance(node, ast.ClassDef)}
            for node in ast.walk(tree):
                if isinstance(node, ast.arg):
                    self.assertNotIn(node.arg, taken, path)
                if isinstance(node, ast.Name) and isinstance(node.ctx, ast.Store):
                    self.assertNotIn(node.id, taken, path)

    def test_methods_and_attributes_have_unlike_names(self):
        """L18, L26"""
        methods = {x.name for _path, node in nodes(ast.ClassDef) for x in node.body if isinstance(x, ast.FunctionDef)}
        stored = {node.attr for _path, node in nodes(ast.Attribute) if isinstance(node.ctx, ast.Store)}
        self.assertEqual(methods & stored, set())
        builtin = {name for kind in (str, int, list, dict, set, bytes) for name in dir(kind)}
        self.assertEqual((methods - CLASS_METHODS) & builtin, set())
        self.assertLessEqual(stored & builtin, {"index", "count", "title"})
        read = {node.attr for _path, node in nodes(ast.Attribute) if isinstance(node.ctx, ast.Load)}
        self.assertLessEqual(read, methods | stored | builtin)

    def test_what_a_loop_walks_is_not_changed_in_it(self):
        """L23"""
        for path, function in nodes(ast.FunctionDef):
            self.assertEqual(changed_in_loops(function), [], f"{path} {function.name}")

    def test_a_change_in_a_loop_is_seen(self):
        for walked, change, given in (
            ("xs", "xs.append(x)", ""), ("xs", "ys.append(x)", "xs = ys"), ("xs", "ys[0] = x", "ys = zs = xs"),
            ("box.rows", "row.rows.pop()", ""), ("xs or ys", "ys += [x]", ""), ("enumerate(xs)", "del xs[0]", ""),
            ("xs.items()", "ys.update({})", "xs, k = ys, 1"), ("zip(ys, xs)", "zs.clear()", "xs = ys if x else zs"),
        ):
            text = f"def walk(xs, ys):\n    for x in {walked}:\n        {change}\n    {given or 'pass'}\n"
            self.assertEqual(len(changed_in_loops(ast.parse(text).body[0])), 1, text)
            text = text.replace(f"in {walked}:", f"in list({walked}):")
            self.assertEqual(changed_in_loops(ast.parse(text).body[0]), [], text)


def named(node):
    """The names, and with a dot the attributes, that a loop walks, or that change, with this expression."""
    if isinstance(node, ast.Name):
        return {node.id}
    if isinstance(node, ast.Attribute):
        return {f".{node.attr}"}
    if isinstance(node, ast.IfExp):
        return named(node.body) | named(node.orelse)
    if isinstance(node, ast.BoolOp):
        return set().union(*map(named, node.values))
    if isinstance(node, ast.Call) and isinstance(node.func, ast.Name):
        return set().union(*map(named, node.args)) if node.func.id in ("enumerate", "zip", "reversed") else set()
    if isinstance(node, ast.Call) and isinstance(node.func, ast.Attribute):
        return named(node.func.value) if node.func.attr in ("items", "keys", "values") else set()
    return set()


def with_other_names(names, function):
    """These names, and all that are given to the same things anywhere in the function."""
    given = []
    for node in ast.walk(function):
        for target in node.targets if isinstance(node, ast.Assign) else ():
            pairs = [(target, node.value)]
            if isinstance(target, ast.Tuple) and isinstance(node.value, ast.Tuple):
                pairs = zip(target.elts, node.value.elts)
            given.extend(named(left) | named(right) for left, right in pairs if named(left) and named(right))
    for _ in given:
        names = names.union(*[group for group in given if group & names])
    return names


def changed_in(node):
    """The names of what a statement or a call changes."""
    if isinstance(node, ast.Call) and isinstance(node.func, ast.Attribute) and node.func.attr in CHANGING_METHODS:
        return named(node.func.value)
    if isinstance(node, ast.AugAssign):
        return named(node.target)
    if isinstance(node, ast.Subscript) and not isinstance(node.ctx, ast.Load):
        return named(node.value)
    return set()


def changed_in_loops(function):
    """The lines on which a loop of a function changes what it walks."""
    lines = []
    for loop in ast.walk(function):
        if isinstance(loop, ast.For):
            walked, rows = [loop.iter], loop.body
        elif isinstance(loop, COMPREHENSIONS):
            walked, rows = [part.iter for part in loop.generators], [loop]
        else:
            continue
        names = with_other_names(set().union(*map(named, walked)), function)
        lines.extend(node.lineno for row in rows for node in ast.walk(row) if changed_in(node) & names)
    return lines


def bound_names(tree):
    names = []
    for node in tree.body:
        if isinstance(node, (ast.FunctionDef, ast.ClassDef)):
            names.append(node.name)
        if isinstance(node, ast.Assign):
            names.extend(target.id for target in node.targets)
    return names
