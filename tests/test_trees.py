import copy
import itertools
import random
import unittest

import reference
from localblocks.errors import TooLong
from localblocks.nodes import is_node, level_of, node_from, size_of, text_of
from localblocks.trees import is_runs, is_tree, rows_of, run_count, runs_of, tree_of


def long_trees():
    """Trees of far more than 300 runs, as section 12 makes them: (tree, how many runs)."""
    yield ("run", ("block", (1, 2)), 151), 302
    yield ("run", ("block", (1, 2)), 10 ** 18), 2 * 10 ** 18
    yield ("run", ("block", (1, ("run", 2, 9))), 10 ** 60), 2 * 10 ** 60
    # The middle of a sequence that is repeated often is a run, and lengthens alone.
    for part in ((1, 2, 3), (1, 2, 1, 3), (5, 55, 6, 66, 7), (1, 22, 3, 22, 1, 3, 4)):
        times = 280 // len(part)
        tree = tree_of(tuple((element, 1) for element in part * times))
        yield lengthened(tree, 10 ** 18), times * len(part) + len(part) * 10 ** 18


def lengthened(tree, more):
    """The tree with more times the longest run of a block in it."""
    runs = [tree]
    for node in runs:
        if isinstance(node, tuple):
            runs.extend([node[1]] if node[0] == "run" else node[1])
    longest = max((node for node in runs if isinstance(node, tuple) and node[0] == "run"), key=lambda run: run[2])

    def changed(node):
        if node == longest:
            return ("run", node[1], node[2] + more)
        if isinstance(node, tuple) and node[0] == "run":
            return ("run", changed(node[1]), node[2])
        if isinstance(node, tuple):
            return ("block", tuple(changed(part) for part in node[1]))
        return node
    return changed(tree)


class ExamplesTest(unittest.TestCase):
    def test_example(self):
        tree = tree_of(((5, 2), (7, 1), (8, 1), (7, 1)))
        self.assertEqual(tree, ("block", (("block", (("run", 5, 2), 7)), ("block", (8, 7)))))
        self.assertEqual(
            [len(rows_of(runs_of(tree))), run_count(tree), runs_of(tree), tree_of(((5, 3),)), tree_of(())],
            [3, 4, ((5, 2), (7, 1), (8, 1), (7, 1)), ("run", 5, 3), None],
        )

    def test_example_of_trees(self):
        self.assertEqual(
            [tree_of(((1, 1), (2, 1), (1, 1), (2, 1))), is_tree(("block", (1, 2, 3))),
             is_tree(("block", (("block", (1, 2)), ("block", (3, 4)))))],
            [("run", ("block", (1, 2)), 2), True, True],
        )


class IsRunsTest(unittest.TestCase):
    def test_runs(self):
        for value in ((), ((0, 1),), ((10 ** 9, 10 ** 60),), ((1, 1), (2, 2), (1, 1)),
                      tuple((at % 2, 1) for at in range(300))):
            self.assertIs(is_runs(value), True)

    def test_no_runs(self):
        for value in (
            None, True, 0, "", "()", [], {}, [(1, 1)], ([1, 1],), {(1, 1): 1}, (1, 1), (1,), ((1,),), ((1, 1, 1),),
            ((),), ((1, 0),), ((1, -1),), ((1, 10 ** 60 + 1),), ((-1, 1),), ((10 ** 9 + 1, 1),), ((1, True),),
            ((True, 1),), ((False, 1),), ((None, 1),), ((1, None),), (("1", 1),), ((1, "1"),), ("11",), ({1: 1, 2: 2},),
            ((1, 1), (1, 1)), ((1, 1), (1, 2)), ((1, 1), (2, 1), (2, 3)), ((1, 1), (True, 1)), ((1, 1), None),
            ((1, 1), [2, 1]), ((1, 1), (2, 0)), (((1, 1), 1),), ((1, 10 ** 5000),), ((10 ** 5000, 1),),
            tuple((at % 2, 1) for at in range(301)), tuple((at % 2, 1) for at in range(5000)),
        ):
            self.assertIs(is_runs(value), False)
        for value in (*reference.STRANGE_VALUES, *reference.deep_values()):
            self.assertIs(is_runs(value), False)
            self.assertIs(is_runs((value,)), False)
            self.assertIs(is_runs(((1, 1), (value, 1))), False)

    def test_unchanged(self):
        for value in [[(1, 1)], ([1, 1],), {1: [2]}, ({}, [[]])]:
            before = copy.deepcopy(value)
            is_runs(value=value)
            is_tree(value=value)
            self.assertEqual(value, before)


class TreeOfTest(unittest.TestCase):
    def test_edges(self):
        for runs, rows in (
            ((), ()),
            (((7, 1),), ((7,),)),
            (((7, 10 ** 60),), ((("run", 7, 10 ** 60),),)),
            (((1, 1), (2, 1)), ((1, 2), (("block", (1, 2)),))),
            (((1, 1), (2, 3), (1, 1)), ((1, ("run", 2, 3), 1), (("block", (1, ("run", 2, 3), 1)),))),
        ):
            self.assertEqual(rows_of(runs), rows)
            self.assertEqual(tree_of(runs), rows[-1][0] if rows else None)

    def test_rows_as_the_definition_says(self):
        for runs in reference.many_runs(9, 120):
            rows = reference.all_rows(runs)
            self.assertEqual(rows_of(runs), rows)
            self.assertEqual(tree_of(runs), rows[-1][0] if rows else None)

    def test_all_short_sequences(self):
        trees = {}
        for length in range(7):
            for sequence in itertools.product((0, 1, 10), repeat=length):
                runs = reference.as_runs(sequence)
                tree = tree_of(runs)
                self.assertEqual(tree, reference.tree(runs))
                self.assertNotIn(tree, trees)
                trees[tree] = sequence
                self.assertEqual(runs_of(tree), runs)
                self.assertIs(is_tree(tree), True)

    def test_sequences_that_repeat(self):
        for part in itertools.product((1, 2, 12), repeat=3):
            for times in (1, 2, 3, 10, 100):
                runs = reference.as_runs(part * times)
                if len(runs) <= 300:
                    self.assertEqual(tree_of(runs), reference.tree(runs))

    def test_300_pairs(self):
        for runs in (tuple((at, 10 ** 60 - at) for at in range(300)), tuple((at % 2, 1) for at in range(300))):
            tree = tree_of(runs)
            self.assertEqual([run_count(tree), runs_of(tree), is_tree(tree)], [300, runs, True])
            self.assertEqual(size_of(tree), sum(count for _, count in runs))
            self.assertEqual(node_from(text_of(tree)), tree)

    def test_by_name(self):
        runs = ((1, 1), (2, 1), (3, 1))
        tree = tree_of(runs=runs)
        self.assertEqual(
            [tree, rows_of(runs=runs)[-1], run_count(tree=tree), runs_of(tree=tree), is_tree(value=tree),
             is_runs(value=runs)],
            [("block", (1, 2, 3)), (tree,), 3, runs, True, True],
        )


class RunsOfTest(unittest.TestCase):
    def test_empty(self):
        self.assertEqual([run_count(None), runs_of(None)], [0, ()])

    def test_one_pair(self):
        self.assertEqual([run_count(5), runs_of(5)], [1, ((5, 1),)])
        self.assertEqual([run_count(("run", 5, 10 ** 60)), runs_of(("run", 5, 10 ** 60))], [1, ((5, 10 ** 60),)])

    def test_back_and_forth(self):
        for runs in reference.many_runs(10, 120):
            tree = tree_of(runs)
            self.assertEqual([run_count(tree), runs_of(tree)], [len(runs), runs])

    def test_300_and_301_pairs(self):
        whole = ("run", ("block", (1, 2)), 150)
        self.assertEqual(runs_of(whole), ((1, 1), (2, 1)) * 150)
        rows = [tuple((at % 2 + 1 for at in range(301)))]
        while len(rows[-1]) > 1:
            rows.append(reference.with_runs([("block", piece) for piece in reference.pieces(rows[-1])]))
        tree = rows[-1][0]
        self.assertEqual(run_count(tree), 301)
        with self.assertRaises(TooLong) as caught:
            runs_of(tree)
        self.assertEqual(caught.exception.limit, 300)
        self.assertIs(is_tree(tree), False)

    def test_far_too_many(self):
        for tree, many in long_trees():
            self.assertEqual(run_count(tree), many)
            with self.assertRaises(TooLong) as caught:
                runs_of(tree)
            self.assertEqual(caught.exception.limit, 300)
            self.assertIs(is_tree(tree), False)
            self.assertIs(is_node(tree), True)
            self.assertEqual(node_from(text_of(tree)), tree)
            self.assertEqual(text_of(tree), reference.text(tree))
            self.assertIn(level_of(tree), range(1, 12))

    def test_sizes_far_too_long(self):
        sizes = [size_of(tree) for tree, _ in long_trees()]
        self.assertEqual(sizes[:3], [302, 2 * 10 ** 18, 10 ** 61])
        self.assertEqual(sizes[3:], [many for _, many in long_trees()][3:])


class IsTreeTest(unittest.TestCase):
    def test_no_tree(self):
        for value in (*reference.STRANGE_VALUES, *reference.deep_values(), (), ((1, 1),)):
            self.assertIs(is_tree(value), False)

    def test_trees(self):
        for value in (None, 0, 10 ** 9, ("run", 0, 2), ("run", 0, 10 ** 60), ("block", (1, 2)), ("block", (1, 2, 1)),
                      ("run", ("block", (1, 2)), 2), ("run", ("block", (1, 2)), 150)):
            self.assertIs(is_tree(value), True)

    def test_nodes_that_are_no_trees(self):
        for text in (
            "(1 2 1)^2",  # makes a run of 1 in row 0
            "((1 2) (2 1))",
            "((1 2)^2 (3 1))^200",
            "(1 2)^151",
            f"(1 2)^{10 ** 60}",
            "((1 2 1) (2 3))",  # cut at another place
        ):
            self.assertIs(is_node(node_from(text)), True)
            self.assertIs(is_tree(node_from(text)), False, text)

    def test_all_small_nodes(self):
        floor = [1, 2, ("run", 1, 2)]
        answers = []
        for parts in itertools.product(floor, floor, [None, *floor]):
            parts = parts[:2] if parts[2] is None else parts
            block = ("block", parts)
            if is_node(block):
                floor = floor + [block]
        above = floor[3:]
        for parts in [*itertools.product(above, above), *itertools.product(above, above, above)]:
            for value in (("block", parts), ("run", parts[0], 2), ("block", (("run", parts[0], 2), parts[1]))):
                if is_node(value):
                    sequence = elements_of(value)
                    right = reference.tree(reference.as_runs(sequence)) == value
                    self.assertIs(is_tree(value), right)
                    answers.append(right)
        self.assertGreater(answers.count(True), 20)
        self.assertGreater(answers.count(False), 20)

    def test_two_trees_of_one_sequence_are_equal(self):
        for runs in reference.many_runs(11, 20, 40):
            self.assertEqual(tree_of(runs), tree_of(tuple([tuple(list(pair)) for pair in runs])))
            self.assertIs(is_tree(tree_of(runs)), True)

    def test_booleans_in_trees(self):
        for value in (("block", (True, 2)), ("block", (0, False, 1)), ("run", ("block", (True, 2)), 2),
                      ("run", ("block", (1, ("run", False, 2))), 2), True, False):
            self.assertIs(is_tree(value), False)


def elements_of(node):
    if isinstance(node, int):
        return [node]
    if node[0] == "run":
        return elements_of(node[1]) * node[2]
    return [element for part in node[1] for element in elements_of(part)]


class ResultsTest(unittest.TestCase):
    def test_elements_stay(self):
        chance = random.Random(12)
        for _ in range(60):
            runs = reference.some_runs(chance, chance.randint(1, 60), (0, 1, 2, 33), (1, 2, 5))
            for row in rows_of(runs):
                self.assertEqual([e for node in row for e in elements_of(node)], reference.as_sequence(runs))

    def test_every_node_of_a_row_is_a_node(self):
        for runs in reference.many_runs(13, 15, 100):
            for level, row in enumerate(rows_of(runs)):
                self.assertIs(type(row), tuple)
                for node in row:
                    self.assertIs(is_node(node), True)
                    self.assertEqual(level_of(node), level)


if __name__ == "__main__":
    unittest.main()
