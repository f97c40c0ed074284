import copy
import itertools
import random
import unittest

import reference
from localblocks.editing import joined, part, spliced
from localblocks.nodes import is_node, node_from
from localblocks.sharing import cost_of, fresh, nodes_of, shared
from localblocks.trees import tree_of

LARGE = 10 ** 60


def some_trees():
    """Trees of all kinds, neighbours with much in common among them."""
    chance = random.Random(50)
    yield from (None, 5, 0, ("run", 5, 2), ("run", 5, LARGE), ("block", (5, 6)), ("block", (5, 6, 5)))
    for runs in itertools.islice(reference.small_runs(), 20, None):
        yield tree_of(runs)
    for runs in reference.many_runs(51, 12, 290):
        tree, size = tree_of(runs), sum(count for _, count in runs)
        yield tree
        at = chance.randint(0, size)
        yield spliced(tree, at, at, ((3, 1),))
        yield part(tree, at // 2, at)
    for runs, times in reference.long_sequences():
        yield reference.repeated(runs, times)
        yield reference.repeated(runs, times - 1)


class ExamplesTest(unittest.TestCase):
    def test_example(self):
        tree, other = tree_of(((5, 2), (7, 1), (8, 1), (7, 1))), tree_of(((5, 2), (7, 1)))
        self.assertEqual(
            [nodes_of(other), shared(tree, other) == nodes_of(other), len(fresh(other, tree)),
             cost_of((tree, other, tree, None))],
            [(("block", (("run", 5, 2), 7)), ("run", 5, 2)), True, 2, 4],
        )


class NodesOfTest(unittest.TestCase):
    def test_edges(self):
        for tree in (None, 0, 5, 10 ** 9):
            self.assertEqual(nodes_of(tree), ())
        self.assertEqual(nodes_of(("run", 5, LARGE)), (("run", 5, LARGE),))
        self.assertEqual(nodes_of(("block", (1, 2))), (("block", (1, 2)),))
        many = ("run", ("block", (1, 2)), 10 ** 18)
        self.assertEqual(nodes_of(many), (("block", (1, 2)), many))

    def test_a_node_that_stands_often_is_one(self):
        tree = node_from("((1 2) (1 3) (1 2))")
        self.assertEqual(nodes_of(tree), tuple(map(node_from, ("((1 2) (1 3) (1 2))", "(1 2)", "(1 3)"))))

    def test_order_of_the_texts(self):
        # In the order of the signs: blank ( ) 0 .. 9 ^; not in that of the numbers.
        tree = tree_of(((2, 3), (10, 2), (2, 1), (10, 20), (9, 2), (2, 20)))
        texts = [reference.text(node) for node in nodes_of(tree)]
        self.assertEqual(texts, sorted(texts))
        self.assertEqual([text for text in texts if "(" not in text], ["10^2", "10^20", "2^20", "2^3", "9^2"])
        self.assertEqual(texts[0][:1], "(")

    def test_as_the_definition_says(self):
        for tree in some_trees():
            found = nodes_of(tree)
            self.assertEqual(found, reference.in_order(reference.inner_nodes(tree)))
            self.assertTrue(all(is_node(node) and type(node) is tuple for node in found))


class SharedTest(unittest.TestCase):
    def test_edges(self):
        one, other = node_from("(1^2 2)"), node_from("(1^2 3)")
        for some, others, both, new in (
            (None, None, (), ()), (None, 5, (), ()), (5, 5, (), ()), (None, one, (), nodes_of(one)), (one, None, (), ()),
            (5, one, (), nodes_of(one)), (one, one, nodes_of(one), ()),
            (one, other, (("run", 1, 2),), (other,)), (other, one, (("run", 1, 2),), (one,)),
            (("run", 5, 2), ("run", 5, 3), (), (("run", 5, 3),)),
        ):
            self.assertEqual([shared(some, others), fresh(some, others)], [both, new])

    def test_as_the_definition_says(self):
        trees = list(some_trees())
        for one, other in zip(trees, trees[1:]):
            known, found = reference.inner_nodes(one), reference.inner_nodes(other)
            self.assertEqual(shared(one, other), reference.in_order(known & found))
            self.assertEqual(shared(other, one), shared(one, other))
            self.assertEqual(fresh(one, other), reference.in_order(found - known))
            self.assertEqual(fresh(other, one), reference.in_order(known - found))

    def test_versions_share_nearly_all(self):
        for runs in reference.many_runs(52, 9, 298):
            tree, size = tree_of(runs), sum(count for _, count in runs)
            for at in (0, size // 2, size):
                other = spliced(tree, at, at, ((123, 1),))
                rows = reference.all_rows(runs)
                self.assertLessEqual(len(fresh(tree, other)), 26 * (len(rows) + 1))


class CostOfTest(unittest.TestCase):
    def test_edges(self):
        one = node_from("(1^2 2)")
        for trees, cost in (
            ((), 0), ((None,), 0), ((5,), 0), ((5, None, 6), 0), ((one,), 2), ((one, one, one), 2),
            ((one, None, ("run", 1, 2), 1), 2), ((("run", 1, 2), ("run", 1, 3), ("run", 1, LARGE)), 3),
        ):
            self.assertEqual(cost_of(trees), cost)

    def test_as_the_definition_says(self):
        trees = list(some_trees())
        chance = random.Random(53)
        for _ in range(20):
            some = tuple(chance.sample(trees, chance.randint(0, 8)))
            self.assertEqual(cost_of(some), len(set().union(*map(reference.inner_nodes, some))))
        for tree in trees:
            self.assertEqual(cost_of((tree,)), len(nodes_of(tree)))


class CallsTest(unittest.TestCase):
    def test_by_name(self):
        tree, other = tree_of(((5, 2), (7, 1), (8, 1), (7, 1))), tree_of(((5, 2), (7, 1)))
        self.assertEqual(
            [nodes_of(tree=other), shared(other=tree, one=other), fresh(other=tree, one=other), cost_of(trees=(tree,))],
            [nodes_of(other), shared(other, tree), fresh(other, tree), 4],
        )

    def test_arguments_stay_and_equal_calls_are_equal(self):
        trees = (tree_of(((5, 2), (7, 1), (8, 1), (7, 1))), None, joined(5, ("run", 6, LARGE)))
        before = copy.deepcopy(trees)
        for call in (lambda: nodes_of(trees[0]), lambda: shared(trees[0], trees[2]), lambda: fresh(trees[0], trees[2]),
                     lambda: cost_of(trees)):
            self.assertEqual(call(), call())
        self.assertEqual(trees, before)

    def test_kinds_of_results(self):
        for value in (nodes_of(None), nodes_of(5), shared(5, 5), fresh(5, 5), nodes_of(("run", 5, 2))):
            self.assertIs(type(value), tuple)
        self.assertIs(type(cost_of(())), int)


if __name__ == "__main__":
    unittest.main()
