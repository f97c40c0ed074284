import copy
import itertools
import random
import unittest

import plain
import reference
from localblocks.errors import BadText
from localblocks.nodes import node_from, text_of
from localblocks.repeating import repeated
from localblocks.texts import read_runs, read_tree, show_runs, show_tree
from localblocks.trees import is_tree, runs_of, tree_of

LARGE = 10 ** 60
SIGNS = "019 ()^-x\n\t+_.\u0661\u00b2"
MOST = tuple((at % 2, 1) for at in range(300))


def changed_texts(text):
    """Texts with one character less, more or otherwise."""
    for at in range(len(text) + 1):
        yield text[:at] + text[at + 1:]
        for sign in SIGNS:
            yield text[:at] + sign + text[at:]
            yield text[:at] + sign + text[at + 1:]


def long_texts():
    """Texts of nothing, with thousands of digits, brackets, blanks and other signs."""
    for digits in (62, 4300, 4301, 5000, 19990):
        for digit in "019":
            yield from (digits * digit, "1^" + digits * digit, f"1 {digits * digit}", f"{digits * digit} 1", f"a {digits * digit}")
            yield f"(1 {digits * digit})"
    yield from (20000 * "(", 20000 * ")", 9999 * "(" + "1" + 9999 * ")", 6000 * "(1 ", 6600 * "(1 2) ", 6000 * "(^2",
                20000 * " ", 10000 * "1 ", 10000 * " 1", 20000 * "-", 10000 * "1^", 20000 * "^", 20000 * "\n", 9999 * "- ")


class ExamplesTest(unittest.TestCase):
    def test_example(self):
        self.assertEqual(
            [show_runs(((5, 2), (7, 1))), read_runs("5^2 7"), show_tree(("block", (("run", 5, 2), 7))),
             read_tree("(5^2 7)"), read_tree("-")],
            ["5^2 7", ((5, 2), (7, 1)), "(5^2 7)", ("block", (("run", 5, 2), 7)), None],
        )

    def test_example_of_a_bad_text(self):
        with self.assertRaises(BadText) as caught:
            read_runs("5 5")
        self.assertEqual(caught.exception.text, "5 5")


class Refusing(unittest.TestCase):
    def refuse(self, text, functions=(read_runs, read_tree)):
        for function in functions:
            with self.assertRaises(BadText) as caught:
                function(text)
            self.assertIs(caught.exception.text, text)


class AnyValueTest(Refusing):
    def test_no_strings(self):
        for value in (None, True, False, 0, 5, (), ((5, 1),), [], ["-"], {}, {"-": "-"}, ("-",), ("block", (1, 2)), -1):
            self.refuse(value)
        for value in reference.deep_values():
            self.refuse(value)
        before = copy.deepcopy(reference.STRANGE_VALUES)
        for value in reference.STRANGE_VALUES:
            self.refuse(value)
        self.assertEqual(reference.STRANGE_VALUES, before)

    def test_long_texts(self):
        for text in long_texts():
            self.refuse(text)


class RunsTest(Refusing):
    def test_shown(self):
        for runs, text in (
            ((), "-"), (((0, 1),), "0"), (((0, 2),), "0^2"), (((10 ** 9, LARGE),), f"1000000000^{LARGE}"),
            (((1, 1), (2, 1), (1, 1)), "1 2 1"), (((1, 2), (2, 10), (0, 1), (3, 11)), "1^2 2^10 0 3^11"),
        ):
            self.assertEqual([show_runs(runs), read_runs(text)], [text, runs])

    def test_back_and_forth(self):
        for runs in (*reference.many_runs(90, 40), *reference.small_runs()):
            text = show_runs(runs)
            self.assertEqual(text, plain.show_runs(runs))
            self.assertEqual(read_runs(text), runs)
            self.assertIs(type(text), str)

    def test_all_short_texts(self):
        good = 0
        for length in range(7):
            for signs in itertools.product("012 ^-" if length < 6 else "12 ^", repeat=length):
                text = "".join(signs)
                runs = plain.read_runs(text)
                if runs is None:
                    self.refuse(text, (read_runs,))
                else:
                    good += 1
                    self.assertEqual([read_runs(text), show_runs(runs)], [runs, text])
        self.assertGreater(good, 300)

    def test_one_character_otherwise(self):
        for text in ("-", "0", "5^2 7", "12^10 1 2^9 1000000000 0^19", f"1^{LARGE} 2", "1 10 1 10"):
            for other in changed_texts(text):
                runs = plain.read_runs(other)
                if runs is None:
                    self.refuse(other, (read_runs,))
                else:
                    self.assertEqual([read_runs(other), show_runs(runs)], [runs, other])

    def test_texts_of_no_runs(self):
        for text in (
            "", " ", "--", "- ", " -", "-1", "1 -", "- 1", "1  2", " 1", "1 ", "1\n", "\n1", "1\n2", "1\t2", "1,2", "1\u00a02",
            "01", "00", "1 02", "1^02", "1^1", "1^0", "1^", "^2", "1 ^2", "1^ 2", "1^2^2", "1^-2", "+1", "1_0", "1.0", "1e3",
            "5 5", "5^2 5", "5 5^2", "5^2 5^3", "1 2 2", "0 0", "1000000001", "1^1" + 60 * "0" + "1", f"1^{LARGE + 1}",
            "()", "(1)", "(1 2)", "(1 2)^2", "(1", "1)", "(1) 2", "None", "()", "((1, 1),)", "a", "\u0661", "1 \u00b2", "1^\u0662",
        ):
            self.refuse(text, (read_runs,))

    def test_300_and_301_pairs(self):
        for runs in (MOST, tuple((at, LARGE) for at in range(300))):
            self.assertEqual(read_runs(show_runs(runs)), runs)
            self.refuse(show_runs(runs) + " 7", (read_runs,))
        for many in (301, 302, 1000, 5000):
            self.refuse(" ".join(["1", "2"] * many)[:2 * many - 1], (read_runs,))


class TreesTest(Refusing):
    def test_shown(self):
        for tree, text in ((None, "-"), (0, "0"), (10 ** 9, "1000000000"), (("run", 5, 2), "5^2"),
                           (("run", 5, LARGE), f"5^{LARGE}"), (("block", (1, 2)), "(1 2)"),
                           (("run", ("block", (1, 2)), 150), "(1 2)^150")):
            self.assertEqual([show_tree(tree), read_tree(text)], [text, tree])

    def test_back_and_forth(self):
        for runs in (*reference.many_runs(91, 30), *reference.small_runs(), MOST):
            tree = tree_of(runs)
            self.assertEqual(show_tree(tree), "-" if tree is None else reference.text(tree))
            self.assertEqual(read_tree(show_tree(tree)), tree)

    def test_trees_of_more_than_300_runs(self):
        for tree in (("run", ("block", (1, 2)), 151), ("run", ("block", (1, 2)), 10 ** 18),
                     reference.repeated(((1, 1), (2, 1), (1, 1)), 150), repeated(((1, 1), (2, 9), (3, 1)), 10 ** 18),
                     reference.tree(tuple((at % 2, 1) for at in range(301)))):
            self.assertEqual(show_tree(tree), text_of(tree))
            self.refuse(show_tree(tree), (read_tree,))

    def test_all_short_texts(self):
        good = 0
        for length in range(7):
            for signs in itertools.product("12 ()^" if length < 6 else "1 ()^", repeat=length):
                text = "".join(signs)
                try:
                    node = node_from(text)
                except BadText:
                    self.refuse(text, (read_tree,))
                else:
                    good += 1
                    self.assertEqual(read_tree(text), node)
        self.assertGreater(good, 60)

    def test_nodes_that_are_no_trees(self):
        for text in ("((1 2) (2 1))", "(1 2 1)^2", "((1 2)^2 (3 1))^200", "(1 2)^151", f"(1 2)^{LARGE}", "((1 2 1) (2 3))",
                     "((1 2)^2 (2 3))", "((1 2 3) (1 2))"):
            self.assertIs(is_tree(node_from(text)), False, text)
            self.refuse(text, (read_tree,))

    def test_one_character_otherwise(self):
        seen = {True: 0, False: 0}
        for text in ("((5^2 7) (8 7))", "((1 2)^2 (1 2 3))", "(1 2)^10", "-", "12^10", "(10 2 13)",
                     show_tree(tree_of(((1, 1), (2, 2), (1, 1), (3, 1), (4, 12), (1, 1), (7, 1))))):
            for other in changed_texts(text):
                right = other == "-"
                try:
                    node = node_from(other)
                    runs = reference.as_runs(reference.sequence_of(node))
                    right = len(runs) <= 300 and reference.tree(runs) == node
                except BadText:
                    node = None
                seen[right] += 1
                if right:
                    self.assertEqual([read_tree(other), show_tree(node)], [node, other])
                else:
                    self.refuse(other, (read_tree,))
        self.assertGreater(min(seen.values()), 60)

    def test_longest_texts(self):
        chance = random.Random(92)
        runs = reference.some_runs(chance, 300, tuple(range(10 ** 9 - 99, 10 ** 9)), (1, 10 ** 53, LARGE))
        tree = tree_of(runs)
        self.assertGreater(len(show_tree(tree)), 12000)
        self.assertEqual(read_tree(show_tree(tree)), tree)
        for text in (show_tree(tree)[:-1], show_tree(tree) + ")", "(" + show_tree(tree), show_tree(tree) + "^2"):
            self.refuse(text)
        left, right = "1", "2"
        for _ in range(12):
            left, right = f"({left} {right})", f"({right} {left})"
        self.refuse(left)


class CallsTest(unittest.TestCase):
    def test_by_name(self):
        self.assertEqual(
            [show_runs(runs=((1, 2),)), read_runs(text="1^2"), show_tree(tree=("run", 1, 2)), read_tree(text="1^2")],
            ["1^2", ((1, 2),), "1^2", ("run", 1, 2)],
        )
        for function in (read_runs, read_tree):
            with self.assertRaises(BadText) as caught:
                function(text="1 1")
            self.assertEqual(caught.exception.text, "1 1")

    def test_arguments_stay_and_equal_calls_are_equal(self):
        for runs in (MOST, (), ((5, LARGE),)):
            before, tree = copy.deepcopy(runs), tree_of(runs)
            self.assertEqual([show_runs(runs), show_tree(tree)], [show_runs(before), show_tree(tree_of(before))])
            self.assertEqual([read_runs(show_runs(runs)), read_tree(show_tree(tree))], [runs, tree])
            self.assertEqual([runs, runs_of(tree)], [before, before])


if __name__ == "__main__":
    unittest.main()
