"""The last section: all names of the interface, with their arguments, are where it lists them."""

import importlib
import inspect
import unittest

from localblocks.errors import BlockError

FUNCTIONS = {
    "nodes": "is_node(value) level_of(node) size_of(node) text_of(node) node_from(text)",
    "marks": "first_marks(row) next_marks(some) marks(row) peaks(row) cuts(row) blocks(row) made_runs(nodes)",
    "trees": "is_runs(value) tree_of(runs) rows_of(runs) run_count(tree) runs_of(tree) is_tree(value)",
    "reading": "element_at(tree,index) elements_from(tree,start,stop) count_of(tree,element) way_to(tree,index) walk(tree)",
    "editing": "spliced(tree,start,stop,runs) part(tree,start,stop) joined(one,other) changed(one,other)",
    "sharing": "nodes_of(tree) shared(one,other) fresh(one,other) cost_of(trees)",
    "comparing": "first_difference(one,other) same_stretch(one,first,other,second,length) evidence(one,other) "
                 "shows_common(one,other,value)",
    "repeating": "repeated(runs,times)",
    "texts": "show_runs(runs) read_runs(text) show_tree(tree) read_tree(text)",
}
CLASSES = {
    "store": ("Store", "__init__(self) put(self,name,runs) splice(self,name,start,stop,runs,*,to) "
                       "part(self,name,start,stop,*,to) concat(self,one,other,*,to) repeat(self,name,times,*,to) "
                       "drop(self,name) undo(self) tree(self,name) difference(self,one,other) cost(self) written(self) "
                       "copy(self) __len__(self) __eq__(self,other)"),
    "desk": ("Desk", "__init__(self) say(self,line)"),
}
ERRORS = ("BadText(text) TooLong(limit) NoIndex(index) NoRange(start,stop) BadName(name) BadRuns(runs) BadTimes(times) "
          "NoName(name) TooMany(limit) NothingToUndo() BadLine(line)")


def listed(texts):
    for text in texts.split(" "):
        yield text[:text.index("(")], text[text.index("("):]


def module(name):
    return importlib.import_module("localblocks." + name)


class InterfaceTest(unittest.TestCase):
    def check(self, function, arguments):
        self.assertEqual(str(inspect.signature(function)).replace(" ", ""), arguments)

    def test_functions(self):
        for name, texts in FUNCTIONS.items():
            for function, arguments in listed(texts):
                found = vars(module(name))[function]
                self.check(found, arguments)
                self.assertTrue(inspect.isfunction(found))
                self.assertEqual(found.__module__, "localblocks." + name)

    def test_classes(self):
        for name, (owner, texts) in CLASSES.items():
            found = vars(module(name))[owner]
            self.assertEqual([type(found), found.__module__, found.__bases__], [type, "localblocks." + name, (object,)])
            for method, arguments in listed(texts):
                self.check(vars(found)[method], arguments)

    def test_what_else_a_store_has(self):
        found = vars(vars(module("store"))["Store"])
        self.assertEqual([found["MOST"], type(found["names"]), type(found["changes"])], [60, property, property])
        self.check(found["read"].__func__, "(cls,text)")

    def test_errors(self):
        for name, arguments in listed(ERRORS):
            error = vars(module("errors"))[name]
            self.assertEqual([error.__bases__, error.__module__], [(BlockError,), "localblocks.errors"])
            if arguments != "()":
                self.check(error, arguments)


if __name__ == "__main__":
    unittest.main()
