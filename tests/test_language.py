"""What of the rules of the language can be seen from the code alone, file by file."""

import ast
import os
import re
import unittest

HERE = os.path.dirname(os.path.abspath(__file__))
PACKAGE = os.path.join(os.path.dirname(HERE), "lastbell")
BUILTINS = {"len", "range", "enumerate", "zip", "min", "max", "sum", "abs", "sorted", "reversed", "int", "str",
            "bool", "list", "tuple", "dict", "set", "isinstance", "any", "all", "divmod", "repr", "ord"}
LIBRARY = {"heapq": {"heappush", "heappop"}, "math": {"gcd", "lcm"},
           "itertools": {"product", "combinations", "permutations"}}
METHODS = {"append", "clear", "copy", "count", "extend", "get", "index", "insert", "items", "join", "keys", "pop",
           "remove", "reverse", "setdefault", "update", "values", "sort"}
BARRED = re.compile(r"\b(typing|enum|Enum|Generic|Protocol|ABC|namedtuple|TypedDict|Flag|register|mro|_wall)\b"
                    r"|dataclass|overload|contextmanager")
NO_ATTRIBUTES = {"items", "keys", "values", "pop", "update", "append", "clear", "extend", "insert", "remove", "reverse",
                 "setdefault", "sort", "args", "encode", "decode", "hex", "fromhex", "format", "mro", "open", "input"}
UNWANTED = (ast.Lambda, ast.AsyncFunctionDef, ast.Global, ast.Nonlocal, ast.Try, ast.With, ast.Yield, ast.YieldFrom,
            ast.GeneratorExp, ast.Starred, ast.NamedExpr, ast.Match, ast.JoinedStr, ast.Div, ast.Assert, ast.Delete)
LET_STAR = (ast.List, ast.Tuple)
ON_THE_SPOT = {"range", "zip", "enumerate", "reversed", "permutations", "combinations", "product"}
TAKERS = {"list", "tuple", "sorted", "sum", "enumerate", "zip", "permutations", "combinations", "product"}


def sources():
    for name in sorted(os.listdir(PACKAGE)):
        if name != "__pycache__":
            with open(os.path.join(PACKAGE, name), encoding="utf-8") as file:
                yield name, file.read()


def trees():
    for name, text in sources():
        yield name, ast.parse(text)


class LanguageTest(unittest.TestCase):

    def test_files(self):
        for name, text in sources():
            self.assertRegex(name, r"^[a-z_][a-z0-9_]*\.py$")
            lines = text.split("\n")
            self.assertLessEqual(len(lines), 399, name)
            self.assertTrue(all(len(line) <= 120 for line in lines), name)
            self.assertTrue(all(sign == "\n" or " " <= sign <= "~" for sign in text), name)
            self.assertIsNone(BARRED.search(text), name)

    def test_functions_are_small(self):
        for name, tree in trees():
            for node in ast.walk(tree):
                if isinstance(node, ast.FunctionDef):
                    self.assertLessEqual(node.end_lineno - node.lineno + 1, 40, (name, node.name))
                    self.assertEqual(node.decorator_list, [], (name, node.name))

    def test_imports(self):
        for name, tree in trees():
            for node in ast.walk(tree):
                self.assertNotIsInstance(node, ast.Import, name)
                if isinstance(node, ast.ImportFrom):
                    self.assertIn(node, tree.body, name)
                    self.assertEqual(node.level, 0, name)
                    self.assertTrue(all(one.asname is None and one.name != "*" for one in node.names), name)
                    if not node.module.startswith("lastbell."):
                        self.assertLessEqual({one.name for one in node.names}, LIBRARY[node.module], name)

    def test_imports_name_the_file_that_defines(self):
        defined = {name[:-3]: {node.name for node in tree.body if isinstance(node, (ast.FunctionDef, ast.ClassDef))}
                   for name, tree in trees()}
        for name, tree in trees():
            for node in tree.body:
                if isinstance(node, ast.ImportFrom) and node.module.startswith("lastbell."):
                    for one in node.names:
                        self.assertIn(one.name, defined[node.module[len("lastbell."):]], name)

    def test_imports_are_used(self):
        for name, tree in trees():
            used = {node.id for node in ast.walk(tree) if isinstance(node, ast.Name)}
            for node in tree.body:
                if isinstance(node, ast.ImportFrom):
                    self.assertLessEqual({one.name for one in node.names}, used, name)

    def test_module_level(self):
        for name, tree in trees():
            for node in tree.body:
                docstring = isinstance(node, ast.Expr) and isinstance(node.value, ast.Constant)
                plain = isinstance(node, (ast.ImportFrom, ast.FunctionDef, ast.ClassDef, ast.Assign))
                self.assertTrue(docstring or plain, (name, node.lineno))

    def test_statements_and_expressions(self):
        for name, tree in trees():
            starred = [item for node in ast.walk(tree) if isinstance(node, LET_STAR) for item in node.elts]
            for node in ast.walk(tree):
                if node not in starred:
                    self.assertNotIsInstance(node, UNWANTED, (name, getattr(node, "lineno", 0)))
                if isinstance(node, ast.Constant):
                    self.assertNotIsInstance(node.value, (float, complex), name)
                    self.assertFalse(isinstance(node.value, str) and "%" in node.value, (name, node.lineno))

    def test_names(self):
        for name, tree in trees():
            bound = {node.name for node in tree.body if isinstance(node, ast.ClassDef)}
            for node in tree.body:
                if isinstance(node, ast.ImportFrom):
                    bound |= {one.name for one in node.names}
            builtin = set(dir(__builtins__) if not isinstance(__builtins__, dict) else __builtins__)
            for node in ast.walk(tree):
                taken = node.arg if isinstance(node, ast.arg) else None
                if isinstance(node, ast.Name) and isinstance(node.ctx, ast.Store):
                    taken = node.id
                if taken is not None:
                    self.assertNotIn(taken, bound | builtin, (name, node.lineno))

    def test_calls(self):
        own = {node.name for _, tree in trees() for node in ast.walk(tree)
               if isinstance(node, (ast.FunctionDef, ast.ClassDef))}
        library = {word for words in LIBRARY.values() for word in words}
        for name, tree in trees():
            for node in ast.walk(tree):
                if isinstance(node, ast.Call):
                    if isinstance(node.func, ast.Name):
                        self.assertIn(node.func.id, own | BUILTINS | library, (name, node.lineno))
                    else:
                        self.assertIsInstance(node.func, ast.Attribute, (name, node.lineno))
                        self.assertIn(node.func.attr, own | METHODS, (name, node.lineno))

    def test_no_file_imports_itself_through_others(self):
        imported = {}
        for name, tree in trees():
            modules = [node.module.split(".") for node in tree.body if isinstance(node, ast.ImportFrom)]
            imported[name[:-3]] = {words[1] for words in modules if words[0] == "lastbell"}
        done = []
        while len(done) < len(imported):
            ready = [name for name in imported if name not in done and imported[name] <= set(done)]
            self.assertTrue(ready, "files import from each other")
            done.extend(ready)

    def test_iterated_at_once(self):
        for name, tree in trees():
            let = set()
            for node in ast.walk(tree):
                if isinstance(node, (ast.For, ast.comprehension)):
                    let.add(node.iter)
                if isinstance(node, ast.Call) and isinstance(node.func, ast.Name) and node.func.id in TAKERS:
                    let.update(node.args)
            for node in ast.walk(tree):
                if isinstance(node, ast.Call):
                    called = node.func.id if isinstance(node.func, ast.Name) else node.func.attr
                    if called in ON_THE_SPOT or called in ("items", "keys", "values"):
                        self.assertIn(node, let, (name, node.lineno))

    def test_sets_and_is(self):
        """No sets are needed; `is` only stands beside None, True and False."""
        for name, tree in trees():
            for node in ast.walk(tree):
                self.assertNotIsInstance(node, (ast.Set, ast.SetComp), name)
                if isinstance(node, ast.Compare) and any(isinstance(op, (ast.Is, ast.IsNot)) for op in node.ops):
                    self.assertEqual(len(node.ops), 1, (name, node.lineno))
                    self.assertIsInstance(node.comparators[0], ast.Constant, (name, node.lineno))
                    self.assertIn(node.comparators[0].value, (None, True, False), (name, node.lineno))

    def test_no_attribute_is_a_method_of_its_class(self):
        for name, tree in trees():
            for node in tree.body:
                if isinstance(node, ast.ClassDef):
                    methods = {part.name for part in node.body if isinstance(part, ast.FunctionDef)}
                    self.assertEqual(len(methods), len(node.body) - (ast.get_docstring(node) is not None), name)
                    stored = {part.attr for part in ast.walk(node)
                              if isinstance(part, ast.Attribute) and isinstance(part.ctx, ast.Store)}
                    self.assertFalse(methods & stored, (name, node.name))

    def test_attributes_have_no_name_of_a_builtin_value(self):
        for name, tree in trees():
            for node in ast.walk(tree):
                if isinstance(node, ast.Attribute) and isinstance(node.ctx, ast.Store):
                    self.assertNotIn(node.attr, NO_ATTRIBUTES, (name, node.lineno))

    def test_what_a_loop_goes_over_is_not_changed_in_it(self):
        """By its name: no item of it is assigned, and no method of it called, within the loop."""
        for name, tree in trees():
            for loop in ast.walk(tree):
                if isinstance(loop, ast.For):
                    over = {node.id for node in ast.walk(loop.iter) if isinstance(node, ast.Name)}
                    for node in [node for part in loop.body for node in ast.walk(part)]:
                        if isinstance(node, ast.Subscript) and isinstance(node.ctx, ast.Store):
                            held = node.value
                        elif (isinstance(node, ast.Call) and isinstance(node.func, ast.Attribute)
                              and node.func.attr in ("append", "extend", "pop", "clear", "insert", "remove", "update")):
                            held = node.func.value
                        else:
                            continue
                        if isinstance(held, ast.Name):
                            self.assertNotIn(held.id, over, (name, node.lineno))

    def test_double_underscores(self):
        for name, tree in trees():
            for node in ast.walk(tree):
                if isinstance(node, ast.FunctionDef) and node.name.startswith("__"):
                    self.assertIn(node.name, ("__init__", "__eq__"), name)


if __name__ == "__main__":
    unittest.main()
