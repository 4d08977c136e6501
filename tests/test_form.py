"""The form of the code: the mechanical part of the rules that the package keeps."""

import ast
import builtins
import pathlib
import re
import unittest

ROOT = pathlib.Path(__file__).resolve().parent.parent
PACKAGE = ROOT / "peekproof"
BUILTINS = set("""len range enumerate zip min max sum abs sorted reversed int str bool list tuple dict set isinstance ord
    repr any all divmod pow iter next super property staticmethod classmethod map getattr hasattr setattr
    ValueError TypeError KeyError NotImplemented""".split())
METHODS = set("""append clear copy count endswith extend find get index insert isalnum isalpha isdigit islower isspace
    isupper items join keys ljust lower lstrip partition pop remove replace reverse rfind rjust rpartition rsplit rstrip
    setdefault split splitlines startswith strip update upper values zfill bit_length add discard __init__""".split())
DUNDERS = set("""__init__ __eq__ __repr__ __str__ __len__ __enter__ __exit__ __call__ __iter__ __add__ __sub__ __mul__
    __and__ __or__ __neg__ __abs__ __bool__ __invert__ __contains__ __getitem__ __setitem__""".split())
FREE = ("__init__", "__iter__", "__call__", "__enter__", "__exit__")
LIBRARY = {"math": {"gcd", "lcm", "isqrt", "comb", "perm", "factorial"},
           "heapq": {"heappush", "heappop", "heapify"}}
STATEMENTS = (ast.Assign, ast.AugAssign, ast.If, ast.While, ast.For, ast.Return, ast.Break, ast.Continue, ast.Pass,
              ast.Raise, ast.Delete, ast.Try, ast.Expr, ast.FunctionDef, ast.ClassDef, ast.ImportFrom, ast.With)
BARRED = set("""register mro elements open input law version_info with_traceback add_note attrgetter breakpoint builtins
    compile copyright credits delattr dir eval exec exit gc globals help id importlib license locals methodcaller os quit
    vars sys type typing enum Enum Flag Generic Protocol ABC namedtuple""".split())


def files():
    return sorted(PACKAGE.glob("*.py"))


def nodes(path):
    return list(ast.walk(ast.parse(path.read_text())))


def names_bound(node):
    if isinstance(node, ast.Name) and isinstance(node.ctx, ast.Store):
        return [node.id]
    if isinstance(node, ast.arg):
        return [node.arg]
    if isinstance(node, ast.ExceptHandler) and node.name:
        return [node.name]
    if isinstance(node, (ast.FunctionDef, ast.ClassDef)):
        return [node.name]
    return []


def walked_names(part):
    """The names of what a loop over this goes over; what stands in an index is only read."""
    if isinstance(part, ast.Call) and isinstance(part.func, ast.Name) and part.func.id in ("list", "tuple", "sorted"):
        return set()
    if isinstance(part, ast.Call):
        base = [part.func.value] if isinstance(part.func, ast.Attribute) else part.args
        return set().union(*[walked_names(item) for item in base])
    if isinstance(part, (ast.Attribute, ast.Subscript)):
        return walked_names(part.value)
    return {node.id for node in ast.walk(part) if isinstance(node, ast.Name)}


class FormTest(unittest.TestCase):
    def test_the_folder_holds_plain_files_alone(self):
        for path in PACKAGE.iterdir():
            if path.name != "__pycache__":
                self.assertRegex(path.name, r"^[a-z_]+\.py$")
        self.assertLessEqual(len(files()), 100)

    def test_characters_and_sizes(self):
        for path in files():
            text = path.read_text()
            self.assertTrue(all(c == "\n" or " " <= c <= "~" for c in text), path.name)
            self.assertLessEqual(len(text.splitlines()), 399, path.name)
            for number, line in enumerate(text.splitlines(), 1):
                self.assertLessEqual(len(line), 120, f"{path.name}:{number}")
            for node in nodes(path):
                if isinstance(node, ast.FunctionDef):
                    self.assertLessEqual(node.end_lineno - node.lineno + 1, 40, f"{path.name}:{node.name}")

    def test_imports_name_the_file_that_defines(self):
        for path in files():
            for node in nodes(path):
                self.assertNotIsInstance(node, ast.Import, path.name)
                if not isinstance(node, ast.ImportFrom):
                    continue
                self.assertEqual(node.level, 0)
                for alias in node.names:
                    self.assertIsNone(alias.asname)
                    if node.module in LIBRARY:
                        self.assertIn(alias.name, LIBRARY[node.module])
                        continue
                    source = PACKAGE / (node.module.removeprefix("peekproof.") + ".py")
                    defined = [name for part in ast.parse(source.read_text()).body
                               for sub in [part, *getattr(part, "targets", [])] for name in names_bound(sub)]
                    self.assertIn(alias.name, defined, f"{path.name}: {alias.name}")

    def test_imports_go_in_no_ring_and_are_used(self):
        ways = {}
        for path in files():
            imports = [node for node in nodes(path) if isinstance(node, ast.ImportFrom)]
            ways[path.stem] = [node.module.removeprefix("peekproof.") for node in imports
                               if node.module.startswith("peekproof.")]
            text = path.read_text()
            for name in [alias.name for node in imports for alias in node.names]:
                self.assertGreater(len(re.findall(rf"\b{name}\b", text)), 1, f"{path.name}: {name}")
        while ways:
            done = [name for name, wants in ways.items() if not any(want in ways for want in wants)]
            self.assertTrue(done, f"a ring among {sorted(ways)}")
            for name in done:
                del ways[name]

    def test_statements_and_values(self):
        barred = (ast.GeneratorExp, ast.Global, ast.AsyncFunctionDef, ast.Await, ast.Lambda, ast.NamedExpr, ast.Set,
                  ast.SetComp, ast.AnnAssign, ast.Nonlocal, ast.Assert)
        for path in files():
            for node in nodes(path):
                where = f"{path.name}:{getattr(node, 'lineno', '')}"
                self.assertNotIsInstance(node, barred, where)
                if isinstance(node, ast.stmt):
                    self.assertIsInstance(node, STATEMENTS, where)
                if isinstance(node, ast.BinOp):
                    self.assertNotIsInstance(node.op, (ast.Div, ast.Pow, ast.Mod, ast.MatMult), where)
                if isinstance(node, ast.Constant):
                    self.assertNotIsInstance(node.value, (float, complex), where)
                    if isinstance(node.value, str):
                        self.assertNotIn(chr(37), node.value, where)
                if isinstance(node, ast.Compare) and any(isinstance(op, (ast.Is, ast.IsNot)) for op in node.ops):
                    self.assertIsInstance(node.comparators[0], ast.Constant, where)
                if isinstance(node, ast.arg):
                    self.assertIsNone(node.annotation, where)

    def test_calls(self):
        methods = {node.name for path in files() for node in nodes(path) if isinstance(node, ast.FunctionDef)}
        for path in files():
            for node in nodes(path):
                if not isinstance(node, ast.Call):
                    continue
                where = f"{path.name}:{node.lineno}"
                if isinstance(node.func, ast.Attribute):
                    self.assertIn(node.func.attr, methods | METHODS, where)
                    if node.func.attr in METHODS:
                        self.assertEqual(node.keywords, [], where)
                for argument in node.args:
                    if isinstance(argument, ast.Starred):
                        self.assertIsInstance(argument.value, (ast.Name, ast.Attribute), where)
                if isinstance(node.func, ast.Name) and node.func.id == "reversed":
                    self.assertIsInstance(node.args[0], ast.Call, where)

    def test_names(self):
        for path in files():
            tree = ast.parse(path.read_text())
            top = [node.name for node in tree.body if isinstance(node, ast.ClassDef)]
            top += [alias.name for node in tree.body if isinstance(node, ast.ImportFrom) for alias in node.names]
            for node in ast.walk(tree):
                where = f"{path.name}:{getattr(node, 'lineno', '')}"
                for name in names_bound(node):
                    if not isinstance(node, ast.ClassDef):
                        self.assertNotIn(name, top, where)
                    self.assertFalse(hasattr(builtins, name) and name not in DUNDERS, f"{where} {name}")
                    self.assertNotIn(name, BARRED, where)
                    self.assertTrue(name in DUNDERS or re.fullmatch(r"_?[A-Za-z][A-Za-z0-9_]*|_", name), where)
                if isinstance(node, ast.Name) and isinstance(node.ctx, ast.Load) and hasattr(builtins, node.id):
                    self.assertIn(node.id, BUILTINS, where)
                if isinstance(node, ast.Name) and isinstance(node.ctx, ast.Load):
                    self.assertNotEqual(node.id, "_", where)

    def test_decorators_and_module_level(self):
        for path in files():
            tree = ast.parse(path.read_text())
            for node in tree.body:
                self.assertIsInstance(node, (ast.Expr, ast.ImportFrom, ast.FunctionDef, ast.ClassDef, ast.Assign))
            for node in ast.walk(tree):
                for decorator in getattr(node, "decorator_list", []):
                    if isinstance(decorator, ast.Attribute):
                        self.assertEqual((decorator.value.id, decorator.attr), (node.name, "setter"))
                    else:
                        self.assertIn(decorator.id, ("property", "staticmethod", "classmethod"))

    def test_methods_and_attributes_have_different_names(self):
        methods, attributes, generators = {}, {}, set()
        for path in files():
            for part in nodes(path):
                if isinstance(part, ast.FunctionDef) and any(
                        isinstance(node, (ast.Yield, ast.YieldFrom)) for node in ast.walk(part)):
                    generators.add(part.name)
                if not isinstance(part, ast.ClassDef):
                    continue
                for node in part.body:
                    if isinstance(node, ast.FunctionDef) and not node.name.startswith("__"):
                        methods.setdefault(node.name, []).append(part.name)
                for node in ast.walk(part):
                    if isinstance(node, ast.Attribute) and isinstance(node.ctx, ast.Store):
                        attributes.setdefault(node.attr, []).append(part.name)
        # Both are in the document: the method of a board, the attribute of a Ring.
        self.assertEqual(sorted(set(methods) & set(attributes)), ["rest"])
        self.assertEqual(sorted(generators), ["along", "least_sets", "moments", "origins", "rows", "rows_to"])
        defined = [node.name for path in files() for node in nodes(path) if isinstance(node, ast.FunctionDef)]
        self.assertEqual([defined.count(name) for name in sorted(generators)], [1] * len(generators))
        # The document itself calls these so: a slot's real study, indexes, and what adds a sign to a log.
        for name in {*attributes, *methods} - {"real", "index", "add"}:
            self.assertFalse(any(hasattr(kind, name) for kind in (str, int, list, dict, set, bytes, tuple)), name)

    def test_operators_call_nothing_that_an_object_may_hold(self):
        functions, attributes = {}, {"index", "count"}
        roots = []
        for path in files():
            for node in nodes(path):
                if isinstance(node, ast.FunctionDef):
                    functions.setdefault(node.name, []).append((path.name, node))
                    if (node.name in DUNDERS and node.name not in FREE) or any(
                            getattr(decorator, "id", "") == "property" for decorator in node.decorator_list):
                        roots.append((path.name, node))
                if isinstance(node, ast.Attribute) and isinstance(node.ctx, ast.Store):
                    attributes.add(node.attr)
                if isinstance(node, ast.ClassDef):
                    inits = [part for part in node.body if isinstance(part, ast.FunctionDef) and part.name == "__init__"]
                    functions.setdefault(node.name, []).extend((path.name, part) for part in inits)
        seen, waiting = set(), roots
        while waiting:
            where, node = waiting.pop()
            if node in seen:
                continue
            seen.add(node)
            for call in [part for part in ast.walk(node) if isinstance(part, ast.Call)]:
                name = getattr(call.func, "id", getattr(call.func, "attr", None))
                if isinstance(call.func, ast.Attribute):
                    self.assertNotIn(name, attributes, f"{where}:{call.lineno}")
                waiting += functions.get(name, []) if name != "__init__" else []
        self.assertGreater(len(seen), 100)

    def test_lists_that_are_walked_have_no_second_name(self):
        for path in files():
            for node in nodes(path):
                if not isinstance(node, ast.FunctionDef):
                    continue
                twins = [(part.targets[0].id, part.value.id) for part in ast.walk(node)
                         if isinstance(part, ast.Assign) and isinstance(part.targets[0], ast.Name)
                         and isinstance(part.value, ast.Name)]
                for loop in [part for part in ast.walk(node) if isinstance(part, ast.For)]:
                    walked = walked_names(loop.iter)
                    changed = {part.func.value.id for part in ast.walk(loop) if isinstance(part, ast.Call)
                               and isinstance(part.func, ast.Attribute) and isinstance(part.func.value, ast.Name)
                               and part.func.attr in ("append", "extend", "insert", "pop", "remove", "setdefault")}
                    changed |= {part.value.id for part in ast.walk(loop) if isinstance(part, ast.Subscript)
                                and isinstance(part.ctx, ast.Store) and isinstance(part.value, ast.Name)}
                    self.assertEqual(walked & changed, set(), f"{path.name}:{loop.lineno}")
                    for one, other in twins:
                        self.assertFalse({one, other} & walked and {one, other} & changed, f"{path.name}:{loop.lineno}")

    def test_stars_stand_before_names(self):
        for path in files():
            for node in nodes(path):
                if isinstance(node, ast.Starred) and isinstance(node.ctx, ast.Load):
                    self.assertNotIsInstance(node.value, ast.GeneratorExp, f"{path.name}:{node.lineno}")

    def test_returns_of_text_and_length(self):
        for path in files():
            for node in nodes(path):
                if not isinstance(node, ast.FunctionDef) or node.name not in ("__str__", "__repr__", "__len__"):
                    continue
                self.assertIsInstance(node.body[-1], ast.Return)
                for part in ast.walk(node):
                    self.assertNotIsInstance(part, (ast.Assign, ast.AugAssign))
                    if isinstance(part, ast.Return):
                        self.assertIsInstance(part.value, (ast.Call, ast.JoinedStr, ast.Constant))


if __name__ == "__main__":
    unittest.main()
