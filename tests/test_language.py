"""What of ../shared/LANGUAGE.md can be seen in the source: sizes, signs, imports, plain names."""

import ast
import builtins
import pathlib
import unittest

PACKAGE = pathlib.Path(__file__).resolve().parent.parent / "localblocks"
FILES = sorted(PACKAGE.glob("*.py"))
BUILTINS = ("len", "range", "enumerate", "zip", "min", "max", "sum", "abs", "sorted", "reversed", "int", "str", "bool",
            "list", "tuple", "dict", "set", "isinstance", "ord", "repr", "any", "all", "divmod", "ValueError")
LISTED = {
    "errors": "BlockError BadText TooLong NoIndex NoRange BadName BadRuns BadTimes NoName TooMany NothingToUndo BadLine",
    "nodes": "is_node level_of size_of text_of node_from",
    "marks": "first_marks next_marks marks peaks cuts blocks made_runs",
    "trees": "is_runs tree_of rows_of run_count runs_of is_tree",
    "reading": "element_at elements_from count_of way_to walk",
    "editing": "spliced part joined changed",
    "sharing": "nodes_of shared fresh cost_of",
    "comparing": "first_difference same_stretch evidence shows_common",
    "repeating": "repeated",
    "store": "Store",
    "texts": "show_runs read_runs show_tree read_tree",
    "desk": "Desk",
}
METHODS = ("append", "extend", "index", "join", "partition", "pop", "split", "update", "values", "bit_length")
# L17: names that nothing is called by.
BARRED = ("mro", "elements", "open", "input", "law", "version_info", "with_traceback", "add_note", "register")


class LanguageTest(unittest.TestCase):
    def trees(self):
        for path in FILES:
            yield path.name, ast.parse(path.read_text(encoding="utf-8"))

    def test_the_folder_holds_only_plain_files(self):
        names = [path.name for path in PACKAGE.iterdir() if path.name != "__pycache__"]
        self.assertEqual(sorted(names), [path.name for path in FILES])

    def test_sizes_and_signs(self):
        for path in FILES:
            lines = path.read_text(encoding="utf-8").split("\n")
            self.assertLessEqual(len(lines), 399, path.name)
            for line in lines:
                self.assertLessEqual(len(line), 120, (path.name, line))
                self.assertTrue(all(" " <= sign <= "~" for sign in line), (path.name, line))

    def test_functions_are_small(self):
        for name, tree in self.trees():
            for node in ast.walk(tree):
                if isinstance(node, ast.FunctionDef):
                    self.assertLessEqual(node.end_lineno - node.lineno + 1, 40, (name, node.name))

    def methods(self):
        for name, tree in self.trees():
            for owner in tree.body:
                for node in owner.body if isinstance(owner, ast.ClassDef) else ():
                    if isinstance(node, ast.FunctionDef):
                        yield name, owner.name, node

    def test_decorators_over_methods_only(self):
        methods = [node for _, _, node in self.methods()]
        found = {}
        for name, tree in self.trees():
            for node in ast.walk(tree):
                decorators = getattr(node, "decorator_list", [])
                if decorators:
                    found[node.name] = [item.id for item in decorators]
                    self.assertIn(ast.dump(node), map(ast.dump, methods))
        self.assertEqual(found, {"names": ["property"], "changes": ["property"], "read": ["classmethod"]})

    def test_functions_stand_at_module_level_or_in_classes(self):
        for name, tree in self.trees():
            at_top = [node for node in tree.body if isinstance(node, (ast.FunctionDef, ast.ClassDef))]
            within = [node for owner in at_top if isinstance(owner, ast.ClassDef) for node in owner.body]
            for node in ast.walk(tree):
                if isinstance(node, (ast.FunctionDef, ast.ClassDef)):
                    self.assertTrue(node in at_top or node in within, (name, node.name))
                self.assertNotIsInstance(node, (ast.GeneratorExp, ast.NamedExpr, ast.AnnAssign, ast.Nonlocal))

    def test_attributes_are_assigned_by_methods(self):
        assigned = {node.attr for _, tree in self.trees() for node in ast.walk(tree)
                    if isinstance(node, ast.Attribute) and isinstance(node.ctx, ast.Store)}
        known = {node.name for _, _, node in self.methods()} | {"MOST", *METHODS}
        for name, tree in self.trees():
            for node in ast.walk(tree):
                if isinstance(node, ast.Attribute) and isinstance(node.ctx, ast.Load):
                    self.assertIn(node.attr, assigned | known, name)
        self.assertEqual(assigned & {node.name for _, _, node in self.methods()}, set())

    def test_modules_do_not_import_each_other(self):
        known = {name[:-3]: [node.module.split(".")[1] for node in tree.body if isinstance(node, ast.ImportFrom)]
                 for name, tree in self.trees()}

        def above(module):
            found = set(known[module])
            for inner in known[module]:
                found |= above(inner)
            return found
        for module in known:
            self.assertNotIn(module, above(module))
            self.assertEqual(len(known[module]), len(set(known[module])), module)

    def test_what_stands_at_module_level(self):
        for name, tree in self.trees():
            bound = []
            for node in tree.body:
                if isinstance(node, ast.Assign):
                    self.assertEqual([len(node.targets), type(node.targets[0])], [1, ast.Name])
                    bound.append(node.targets[0].id)
                    for value in ast.walk(node.value):
                        kinds = (ast.Constant, ast.Tuple, ast.Dict, ast.Name, ast.Load)
                        self.assertIsInstance(value, kinds, name)
                        self.assertFalse(isinstance(value, ast.Dict) and value != node.value, name)
                elif isinstance(node, ast.ImportFrom):
                    bound += [item.name for item in node.names]
                    self.assertTrue(all(item.asname is None for item in node.names))
                elif isinstance(node, ast.Expr):
                    self.assertIs(node, tree.body[0])
                    self.assertIsInstance(node.value.value, str)
                else:
                    self.assertIsInstance(node, (ast.FunctionDef, ast.ClassDef))
                    bound.append(node.name)
            self.assertEqual(sorted(bound), sorted(set(bound)), name)

    def test_imports_and_calls(self):
        own = {node.name for _, _, node in self.methods()}
        for name, tree in self.trees():
            known = {node.name for node in tree.body if isinstance(node, (ast.FunctionDef, ast.ClassDef))}
            for node in ast.walk(tree):
                self.assertNotIsInstance(node, (ast.Import, ast.Global, ast.Lambda, ast.Try, ast.Set, ast.SetComp))
                if isinstance(node, ast.ImportFrom):
                    self.assertRegex(node.module, "^localblocks[.][a-z]+$")
                    known |= {item.name for item in node.names}
            for node in ast.walk(tree):
                if isinstance(node, ast.Call) and isinstance(node.func, ast.Name):
                    # In these two places a parameter or a local variable is called.
                    allowed = {"desk.py": ["answer"], "store.py": ["cls"]}.get(name, [])
                    self.assertIn(node.func.id, [*known, *BUILTINS, *allowed], name)
                if isinstance(node, ast.Call) and isinstance(node.func, ast.Attribute):
                    self.assertIn(node.func.attr, [*METHODS, *own], name)
                if isinstance(node, ast.Call):
                    self.assertTrue(all(word.arg == "to" for word in node.keywords), name)

    def test_names(self):
        for name, tree in self.trees():
            imported = {item.name for node in tree.body if isinstance(node, ast.ImportFrom) for item in node.names}
            methods = [node for owner in tree.body if isinstance(owner, ast.ClassDef) for node in owner.body]
            for node in ast.walk(tree):
                if node in methods:
                    continue
                bound = node.id if isinstance(node, ast.Name) and isinstance(node.ctx, ast.Store) else ""
                bound = getattr(node, "arg", None) or getattr(node, "name", None) or bound
                self.assertNotIn(bound, (*BARRED, *dir(builtins)), name)
                self.assertFalse(bound in imported and not isinstance(node, ast.alias), (name, bound))

    def test_generators_are_iterated_at_once(self):
        trees = list(self.trees())
        found = [node for _, tree in trees for node in ast.walk(tree) if isinstance(node, ast.FunctionDef)]
        names = [node.name for node in found if any(isinstance(row, (ast.Yield, ast.YieldFrom)) for row in ast.walk(node))]
        self.assertEqual(names, ["walk"])
        for name, tree in trees:
            heads = [node.iter for node in ast.walk(tree) if isinstance(node, (ast.For, ast.comprehension))]
            heads += [node.value for node in ast.walk(tree) if isinstance(node, ast.YieldFrom)]
            for node in ast.walk(tree):
                if isinstance(node, ast.Call) and isinstance(node.func, ast.Name) and node.func.id in names:
                    self.assertIn(node, heads, name)
                    self.assertTrue(all(isinstance(value, ast.Name) for value in node.args), name)

    def test_is_beside_none_only(self):
        for name, tree in self.trees():
            for node in ast.walk(tree):
                if isinstance(node, ast.Compare) and isinstance(node.ops[0], (ast.Is, ast.IsNot)):
                    self.assertIsNone(node.comparators[0].value, name)

    def test_the_interface_is_defined_where_it_is_listed(self):
        defined = {name: [node.name for node in tree.body if isinstance(node, (ast.FunctionDef, ast.ClassDef))]
                   for name, tree in self.trees()}
        for module, names in LISTED.items():
            for name in names.split():
                self.assertIn(name, defined[module + ".py"])


if __name__ == "__main__":
    unittest.main()
