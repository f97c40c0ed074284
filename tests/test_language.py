"""What of ../shared/LANGUAGE.md can be seen in the source: sizes, signs, imports, plain names."""

import ast
import builtins
import pathlib
import unittest

PACKAGE = pathlib.Path(__file__).resolve().parent.parent / "localblocks"
FILES = sorted(PACKAGE.glob("*.py"))
BUILTINS = ("len", "range", "enumerate", "zip", "min", "max", "sum", "abs", "sorted", "reversed", "int", "str", "bool",
            "list", "tuple", "dict", "set", "isinstance", "ord", "repr", "any", "all", "divmod", "ValueError")
LISTED = {
    "errors": "BlockError BadText TooLong NoIndex NoRange BadName BadRuns BadTimes NoName TooMany NothingToUndo BadLine",
    "nodes": "is_node level_of size_of text_of node_from",
    "marks": "first_marks next_marks marks peaks cuts blocks made_runs",
    "trees": "is_runs tree_of rows_of run_count runs_of is_tree",
    "reading": "element_at elements_from count_of way_to walk",
    "editing": "spliced part joined changed",
    "sharing": "nodes_of shared fresh cost_of",
    "comparing": "first_difference same_stretch evidence shows_common",
}
METHODS = ("append", "extend", "index", "join", "pop", "update", "bit_length")
# L17: names that nothing is called by.
BARRED = ("mro", "elements", "open", "input", "law", "version_info", "with_traceback", "add_note", "register")


class LanguageTest(unittest.TestCase):
    def trees(self):
        for path in FILES:
            yield path.name, ast.parse(path.read_text(encoding="utf-8"))

    def test_the_folder_holds_only_plain_files(self):
        names = [path.name for path in PACKAGE.iterdir() if path.name != "__pycache__"]
        self.assertEqual(sorted(names), [path.name for path in FILES])

    def test_sizes_and_signs(self):
        for path in FILES:
            lines = path.read_text(encoding="utf-8").split("\n")
            self.assertLessEqual(len(lines), 399, path.name)
            for line in lines:
                self.assertLessEqual(len(line), 120, (path.name, line))
                self.assertTrue(all(" " <= sign <= "~" for sign in line), (path.name, line))

    def test_functions_are_small(self):
        for name, tree in self.trees():
            for node in ast.walk(tree):
                if isinstance(node, ast.FunctionDef):
                    self.assertLessEqual(node.end_lineno - node.lineno + 1, 40, (name, node.name))
                    self.assertEqual(node.decorator_list, [])

    def test_imports_and_calls(self):
        for name, tree in self.trees():
            known = {node.name for node in tree.body if isinstance(node, (ast.FunctionDef, ast.ClassDef))}
            for node in ast.walk(tree):
                self.assertNotIsInstance(node, (ast.Import, ast.Global, ast.Lambda, ast.Try, ast.Set, ast.SetComp))
                if isinstance(node, ast.ImportFrom):
                    self.assertRegex(node.module, "^localblocks[.][a-z]+$")
                    known |= {item.name for item in node.names}
            for node in ast.walk(tree):
                if isinstance(node, ast.Call) and isinstance(node.func, ast.Name):
                    self.assertTrue(node.func.id in known or node.func.id in BUILTINS, (name, node.func.id))
                if isinstance(node, ast.Call) and isinstance(node.func, ast.Attribute):
                    self.assertIn(node.func.attr, METHODS, name)

    def test_names(self):
        for name, tree in self.trees():
            imported = {item.name for node in tree.body if isinstance(node, ast.ImportFrom) for item in node.names}
            for node in ast.walk(tree):
                bound = node.id if isinstance(node, ast.Name) and isinstance(node.ctx, ast.Store) else ""
                bound = getattr(node, "arg", None) or getattr(node, "name", None) or bound
                self.assertNotIn(bound, (*BARRED, *dir(builtins)), name)
                self.assertFalse(bound in imported and not isinstance(node, ast.alias), (name, bound))

    def test_generators_are_iterated_at_once(self):
        trees = list(self.trees())
        found = [node for _, tree in trees for node in ast.walk(tree) if isinstance(node, ast.FunctionDef)]
        names = [node.name for node in found if any(isinstance(row, (ast.Yield, ast.YieldFrom)) for row in ast.walk(node))]
        self.assertEqual(names, ["walk"])
        for name, tree in trees:
            heads = [node.iter for node in ast.walk(tree) if isinstance(node, (ast.For, ast.comprehension))]
            heads += [node.value for node in ast.walk(tree) if isinstance(node, ast.YieldFrom)]
            for node in ast.walk(tree):
                if isinstance(node, ast.Call) and isinstance(node.func, ast.Name) and node.func.id in names:
                    self.assertIn(node, heads, name)
                    self.assertTrue(all(isinstance(value, ast.Name) for value in node.args), name)

    def test_is_beside_none_only(self):
        for name, tree in self.trees():
            for node in ast.walk(tree):
                if isinstance(node, ast.Compare) and isinstance(node.ops[0], (ast.Is, ast.IsNot)):
                    self.assertIsNone(node.comparators[0].value, name)

    def test_the_interface_is_defined_where_it_is_listed(self):
        defined = {name: [node.name for node in tree.body if isinstance(node, (ast.FunctionDef, ast.ClassDef))]
                   for name, tree in self.trees()}
        for module, names in LISTED.items():
            for name in names.split():
                self.assertIn(name, defined[module + ".py"])


if __name__ == "__main__":
    unittest.main()
