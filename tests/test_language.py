"""The rules of the language that can be seen in the files of the package.

The lists below hold what the package uses now. A new word is only added after looking up its rule.
"""

import ast
import builtins
import unittest
from pathlib import Path

FOLDER = Path(__file__).resolve().parent.parent / "similarforms"
FILES = sorted(path for path in FOLDER.rglob("*") if "__pycache__" not in path.parts)
LIBRARY = {("math", "gcd"), ("math", "isqrt"), ("math", "lcm")}
BUILTINS = set("""len range enumerate zip max sum abs int str bool list tuple dict isinstance all any divmod sorted iter
ValueError""".split())
METHODS = set("""append pop join lstrip strip zfill isascii isdigit isalpha islower startswith partition split replace
get""".split())
DUNDERS = {f"__{name}__" for name in "init eq str len iter call add sub mul floordiv mod neg".split()}
NODES = set("""Module Expr Constant ImportFrom alias ClassDef FunctionDef arguments arg Assign AugAssign Return Raise If
While For IfExp ListComp SetComp comprehension Name Attribute Call Subscript Slice Tuple List Load Store BinOp UnaryOp
BoolOp Compare JoinedStr FormattedValue Add Sub Mult FloorDiv Mod Pow USub Not And Or Eq NotEq Lt LtE Gt GtE Is IsNot In
NotIn Dict Starred Try ExceptHandler keyword""".split())
WORDS = set("""register mro elements open input law version_info with_traceback add_note type typing enum Enum Flag
Generic Protocol ABC namedtuple attrgetter breakpoint compile dir eval exec exit gc getattr globals hasattr help id
locals os quit setattr super sys vars items keys values update args encode decode hex format""".split())


def tree_of(path):
    return ast.parse(path.read_text(encoding="ascii"))


def nodes_of(kind):
    return [(path.name, node) for path in FILES for node in ast.walk(tree_of(path)) if isinstance(node, kind)]


def bound_names(function):
    """Return the parameters and local variables of a function."""
    found = [argument.arg for argument in ast.walk(function) if isinstance(argument, ast.arg)]
    return found + [node.id for node in ast.walk(function) if isinstance(node, ast.Name)
                    and isinstance(node.ctx, ast.Store)]


class LanguageTest(unittest.TestCase):
    def test_files(self):
        for path in FILES:
            self.assertRegex(path.name, r"\A[a-z_]+\.py\Z")
            text = path.read_text(encoding="ascii")
            self.assertTrue(all(" " <= sign <= "~" or sign == "\n" for sign in text), path.name)
            lines = text.split("\n")
            self.assertLess(len(lines), 400, path.name)
            self.assertTrue(all(len(line) <= 120 for line in lines), path.name)
            self.assertTrue(all(line == line.rstrip() for line in lines), path.name)

    def test_kinds_of_nodes(self):
        for name, node in nodes_of(ast.AST):
            self.assertIn(type(node).__name__, NODES, (name, getattr(node, "lineno", 0)))

    def test_module_level(self):
        for path in FILES:
            body = tree_of(path).body
            self.assertIsInstance(body[0].value.value, str)
            seen = []
            for node in body[1:]:
                self.assertIsInstance(node, (ast.ImportFrom, ast.ClassDef, ast.FunctionDef, ast.Assign))
                if isinstance(node, ast.ImportFrom):
                    self.assertTrue(all(kind is ast.ImportFrom for kind in seen), path.name)
                if isinstance(node, ast.Assign):
                    self.assertFalse([part for part in ast.walk(node.value) if isinstance(part, ast.Call)])
                seen.append(type(node))

    def test_imports(self):
        uses = {}
        for path in FILES:
            used = uses.setdefault(f"similarforms.{path.stem}", set())
            for node in ast.walk(tree_of(path)):
                if isinstance(node, ast.ImportFrom):
                    self.assertEqual(node.level, 0)
                    for name in node.names:
                        self.assertIsNone(name.asname)
                        if (node.module, name.name) not in LIBRARY:
                            used.add(node.module)
                            home = tree_of(FOLDER / (node.module.removeprefix("similarforms.") + ".py"))
                            self.assertIn(name.name, [part.name for part in home.body if hasattr(part, "name")])
        while uses:
            free = [module for module, used in uses.items() if not used & set(uses)]
            self.assertTrue(free, f"files that import each other: {sorted(uses)}")
            for module in free:
                del uses[module]

    def test_functions(self):
        for name, node in nodes_of(ast.FunctionDef):
            self.assertLessEqual(node.end_lineno - node.lineno + 1, 40, (name, node.name))
            self.assertEqual(node.decorator_list, [])
            self.assertIsNone(node.args.vararg or node.args.kwarg)
            if node.name.startswith("__"):
                self.assertIn(node.name, DUNDERS)

    def test_names(self):
        for path in FILES:
            tree = tree_of(path)
            taken = {name.name for node in tree.body if isinstance(node, ast.ImportFrom) for name in node.names}
            taken |= {node.name for node in tree.body if isinstance(node, ast.ClassDef)}
            own = [node.name for node in ast.walk(tree) if isinstance(node, (ast.ClassDef, ast.FunctionDef))]
            for function in ast.walk(tree):
                if isinstance(function, ast.FunctionDef):
                    for name in bound_names(function):
                        self.assertNotIn(name, taken, (path.name, function.name))
                        self.assertFalse(hasattr(builtins, name), (path.name, function.name, name))
                        own.append(name)
            for name in own:
                self.assertNotIn(name, WORDS, path.name)
                self.assertTrue(name in DUNDERS or not hasattr(builtins, name), (path.name, name))

    def test_builtins_and_methods(self):
        own = {node.name for _, node in nodes_of((ast.FunctionDef, ast.ClassDef))}
        for name, node in nodes_of(ast.Name):
            if hasattr(builtins, node.id):
                self.assertIn(node.id, BUILTINS, name)
        for name, node in nodes_of(ast.Call):
            if isinstance(node.func, ast.Attribute):
                self.assertIn(node.func.attr, METHODS | own, (name, node.lineno))
        for name, node in nodes_of(ast.Attribute):
            self.assertFalse(node.attr.startswith("__"), (name, node.lineno))
            self.assertNotIn(node.attr, WORDS, (name, node.lineno))

    def test_numbers_and_signs(self):
        for name, node in nodes_of(ast.Constant):
            self.assertIn(type(node.value), (int, str, bool, type(None)), name)
            if isinstance(node.value, str):
                self.assertNotIn("%", node.value, name)
        for name, node in nodes_of(ast.BinOp):
            if isinstance(node.op, ast.Pow):
                self.assertIn(node.right.value, range(65), name)
        for name, node in nodes_of(ast.AugAssign):
            self.assertIsInstance(node.target, ast.Name, name)
            self.assertIs(type(node.value.value), int, name)
        for name, node in nodes_of(ast.Compare):
            if isinstance(node.ops[0], (ast.Is, ast.IsNot)):
                self.assertIsNone(node.comparators[0].value, name)

    def test_no_name_is_a_method_and_an_attribute_of_one_class(self):
        for name, node in nodes_of(ast.ClassDef):
            methods = [part.name for part in node.body if isinstance(part, ast.FunctionDef)]
            stored = [part.attr for part in ast.walk(node)
                      if isinstance(part, ast.Attribute) and isinstance(part.ctx, ast.Store)]
            self.assertEqual(len(methods), len(set(methods)), name)
            self.assertFalse(set(methods) & set(stored), name)

    def test_attributes_are_assigned_when_the_object_is_created(self):
        for name, node in nodes_of(ast.FunctionDef):
            if node.name != "__init__":
                self.assertFalse([part for part in ast.walk(node) if isinstance(part, ast.Attribute)
                                  and not isinstance(part.ctx, ast.Load)], (name, node.name))

    def test_handlers_name_own_errors(self):
        for name, node in nodes_of(ast.ExceptHandler):
            kinds = node.type.elts if isinstance(node.type, ast.Tuple) else [node.type]
            self.assertLessEqual({kind.id for kind in kinds}, {"NoText", "Malformed", "Refused"}, name)
        for name, node in nodes_of(ast.Try):
            self.assertEqual((node.orelse, node.finalbody), ([], []), name)

    def test_stars_stand_before_names(self):
        for name, node in nodes_of(ast.Starred):
            self.assertIsInstance(node.value, ast.Name, (name, node.lineno))

    def test_tables_are_only_read(self):
        for path in FILES:
            tree = tree_of(path)
            tables = {node.targets[0].id for node in tree.body if isinstance(node, ast.Assign)
                      and isinstance(node.value, (ast.Dict, ast.Tuple))}
            parents = {child: node for node in ast.walk(tree) for child in ast.iter_child_nodes(node)}
            for node in ast.walk(tree):
                if isinstance(node, ast.Name) and node.id in tables and isinstance(node.ctx, ast.Load):
                    parent = parents[node]
                    if isinstance(parent, ast.Attribute):
                        self.assertEqual(parent.attr, "get", (path.name, node.lineno))
                    else:
                        self.assertIsInstance(parent, (ast.Subscript, ast.Compare), (path.name, node.lineno))
