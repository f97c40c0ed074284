import copy
import itertools
import random
import types
import unittest

import reference
from localblocks.errors import NoIndex, TooLong
from localblocks.nodes import node_from, size_of
from localblocks.reading import count_of, element_at, elements_from, walk, way_to
from localblocks.trees import tree_of

LARGE = 10 ** 60

# Values that are indexes of no tree.
NO_INDEXES = (
    True, False, None, "0", "", "1", [], [0], [1], (), (0,), (1,), {}, {0: 0}, {1: 1}, -1, -2, -(10 ** 60),
    10 ** 90, 10 ** 5000, -(10 ** 5000),
)


class ExamplesTest(unittest.TestCase):
    def test_example(self):
        tree = tree_of(((5, 2), (7, 1), (8, 1), (7, 1)))
        self.assertEqual([element_at(tree, 2), elements_from(tree, 1, 9), count_of(tree, 7)], [7, (5, 7, 8, 7), 2])
        self.assertEqual(
            [node for node in walk(("block", (("run", 5, 2), 7)))], [("block", (("run", 5, 2), 7)), ("run", 5, 2), 5, 7]
        )
        self.assertEqual(
            way_to(("run", ("block", (1, 2)), 9), 5), ((("run", ("block", (1, 2)), 9), 0), (("block", (1, 2)), 4), (2, 5))
        )

    def test_example_of_no_index(self):
        with self.assertRaises(NoIndex) as caught:
            element_at(("run", 5, 3), 3)
        self.assertEqual(caught.exception.index, 3)


class NoIndexTest(unittest.TestCase):
    def refuse(self, tree, index):
        for function in (element_at, way_to):
            with self.assertRaises(NoIndex) as caught:
                function(tree, index)
            self.assertIs(caught.exception.index, index)

    def test_values_that_are_no_indexes(self):
        for tree in (None, 0, 1, ("run", 1, LARGE), ("block", (1, 2)), ("run", ("block", (0, 1)), 10 ** 18)):
            for value in NO_INDEXES:
                before = copy.deepcopy(value)
                self.refuse(tree, value)
                self.assertEqual(value, before)

    def test_strange_values(self):
        for value in (*reference.STRANGE_VALUES, *reference.deep_values()):
            self.refuse(("block", (1, 2)), value)
            self.refuse(None, value)

    def test_no_elements(self):
        for index in (0, 1, -1, 10 ** 18):
            self.refuse(None, index)

    def test_behind_the_last_one(self):
        for tree in (7, ("run", 7, 2), ("run", 7, LARGE), ("block", (1, 2, 3)), tree_of(((1, LARGE), (2, LARGE)))):
            size = size_of(tree)
            for index in (size, size + 1, 2 * size, -1, -size):
                self.refuse(tree, index)
            self.assertIn(element_at(tree, size - 1), (7, 3, 2))


class ElementAtTest(unittest.TestCase):
    def test_one_element_and_one_run(self):
        self.assertEqual([element_at(0, 0), element_at(10 ** 9, 0)], [0, 10 ** 9])
        for count in (2, 10 ** 18, LARGE):
            self.assertEqual([element_at(("run", 4, count), at) for at in (0, 1, count - 1)], [4, 4, 4])

    def test_all_indexes(self):
        for runs in reference.small_runs():
            tree, sequence = tree_of(runs), reference.as_sequence(runs)
            self.assertEqual([element_at(tree, index) for index in range(len(sequence))], sequence)
            with self.assertRaises(NoIndex):
                element_at(tree, len(sequence))

    def test_both_ends_of_each_run(self):
        for runs in reference.many_runs(32, 9):
            tree, begin = tree_of(runs), 0
            for element, count in runs:
                self.assertEqual([element_at(tree, begin), element_at(tree, begin + count - 1)], [element, element])
                begin += count

    def test_far_too_long(self):
        self.assertEqual(element_at(("run", ("block", (1, 2)), 10 ** 18), 10 ** 17), 1)
        chance = random.Random(33)
        for runs, times in reference.long_sequences():
            tree, size = reference.repeated(runs, times), sum(count for _, count in runs)
            for index in (0, 1, size - 1, size, size * times - 1, *[chance.randrange(size * times) for _ in range(9)]):
                element, end = None, 0
                for element, count in runs:
                    end += count
                    if index % size < end:
                        break
                self.assertEqual(element_at(tree, index), element)
            with self.assertRaises(NoIndex):
                element_at(tree, size * times)


class ElementsFromTest(unittest.TestCase):
    def test_all_stretches(self):
        for runs in reference.small_runs():
            tree, sequence = tree_of(runs), tuple(reference.as_sequence(runs))
            for start in range(0, len(sequence) + 3, 1 + len(sequence) // 12):
                for stop in range(start, len(sequence) + 3, 1 + len(sequence) // 12):
                    self.assertEqual(elements_from(tree, start, stop), sequence[start:stop])

    def test_none(self):
        for start, stop in ((0, 0), (0, 1), (5, 5), (0, 2000), (10 ** 90, 10 ** 90 + 2000)):
            self.assertEqual(elements_from(None, start, stop), ())

    def test_one_element(self):
        for start, stop, found in ((0, 0, ()), (0, 1, (7,)), (0, 2000, (7,)), (1, 1, ()), (1, 5, ()), (9, 9, ())):
            self.assertEqual(elements_from(7, start, stop), found)

    def test_ends_of_a_run(self):
        tree = ("run", 4, LARGE)
        for start, stop, many in ((0, 0, 0), (0, 2000, 2000), (LARGE - 3, LARGE, 3), (LARGE - 3, LARGE + 5, 3),
                                  (LARGE, LARGE + 2000, 0), (LARGE + 1, LARGE + 1, 0), (LARGE // 2, LARGE // 2 + 1, 1)):
            self.assertEqual(elements_from(tree, start, stop), (4,) * many)

    def test_2000_and_2001(self):
        sequence = [at % 7 // 2 for at in range(500)]
        tree = tree_of(reference.as_runs(sequence))
        for base in (tree, None, 5, ("run", 5, 2000), ("run", 5, LARGE), ("run", ("block", (1, 2)), 10 ** 18)):
            for start in (0, 1, 499, 500, 10 ** 18, 10 ** 90):
                some = elements_from(base, start, start + 2000)
                self.assertLessEqual(len(some), 2000)
                for more in (2001, 2002, 10 ** 18, 10 ** 90):
                    with self.assertRaises(TooLong) as caught:
                        elements_from(base, start, start + more)
                    self.assertEqual(caught.exception.limit, 2000)
        self.assertEqual(elements_from(tree, 0, 2000), tuple(sequence))
        self.assertEqual(elements_from(("run", 5, 2000), 0, 2000), (5,) * 2000)
        self.assertEqual(elements_from(("run", 5, 2001), 1, 2001), (5,) * 2000)
        self.assertEqual(elements_from(("run", ("block", (1, 2)), 10 ** 18), 10 ** 18 + 1, 10 ** 18 + 2001), (2, 1) * 1000)

    def test_far_too_long(self):
        chance = random.Random(34)
        for runs, times in reference.long_sequences():
            tree, size = reference.repeated(runs, times), sum(count for _, count in runs)
            for start in (0, size * times - 1, size * times, *[chance.randrange(size * times) for _ in range(3)]):
                some = elements_from(tree, start, start + 70)
                self.assertEqual(some, tuple([element_at(tree, start + at) for at in range(len(some))]))
                self.assertEqual(len(some), min(70, size * times - start))


class CountOfTest(unittest.TestCase):
    def test_as_the_list_says(self):
        for runs in reference.small_runs():
            tree, sequence = tree_of(runs), reference.as_sequence(runs)
            for element in {0, 3, 10 ** 9, *sequence}:
                self.assertEqual(count_of(tree, element), sequence.count(element))

    def test_edges(self):
        self.assertEqual([count_of(None, 5), count_of(5, 5), count_of(5, 6), count_of(0, 0)], [0, 1, 0, 1])
        self.assertEqual([count_of(("run", 5, LARGE), 5), count_of(("run", 5, LARGE), 4)], [LARGE, 0])

    def test_far_too_long(self):
        for runs, times in reference.long_sequences():
            tree = reference.repeated(runs, times)
            for wanted in {0, 7, *[element for element, _ in runs]}:
                many = sum(count for element, count in runs if element == wanted)
                self.assertEqual(count_of(tree, wanted), many * times)


class WayToTest(unittest.TestCase):
    def test_as_the_definition_says(self):
        for runs in reference.small_runs():
            tree = tree_of(runs)
            for index in range(0, len(reference.as_sequence(runs)), 3):
                self.assertEqual(way_to(tree, index), reference.way(tree, index))

    def test_one_element_and_one_run(self):
        self.assertEqual(way_to(7, 0), ((7, 0),))
        for at in (0, 1, LARGE - 1):
            self.assertEqual(way_to(("run", 7, LARGE), at), ((("run", 7, LARGE), 0), (7, at)))

    def test_each_node_is_a_part_of_the_one_before(self):
        chance = random.Random(35)
        for runs, times in reference.long_sequences():
            tree, size = reference.repeated(runs, times), sum(count for _, count in runs) * times
            for index in (0, size - 1, *[chance.randrange(size) for _ in range(9)]):
                way = way_to(tree, index)
                self.assertEqual([way[0], way[-1]], [(tree, 0), (element_at(tree, index), index)])
                for (node, begin), (part, start) in zip(way, way[1:]):
                    self.assertTrue(begin <= start <= index < start + size_of(part))
                    if node[0] == "run":
                        self.assertEqual([part, (start - begin) % size_of(part)], [node[1], 0])
                        self.assertLess(start - begin, size_of(node))
                    else:
                        begins = [begin + sum(map(size_of, node[1][:at])) for at in range(len(node[1]))]
                        self.assertIn((part, start), list(zip(node[1], begins)))


class WalkTest(unittest.TestCase):
    def test_is_a_generator(self):
        for tree in (None, 5, ("block", (1, 2))):
            self.assertIsInstance(walk(tree), types.GeneratorType)

    def test_edges(self):
        for tree, found in (
            (None, []), (5, [5]), (0, [0]), (("run", 5, LARGE), [("run", 5, LARGE), 5]),
            (("run", ("block", (1, 2)), 10 ** 18), [("run", ("block", (1, 2)), 10 ** 18), ("block", (1, 2)), 1, 2]),
        ):
            self.assertEqual(list(walk(tree)), found)

    def test_a_node_that_stands_twice_comes_twice(self):
        tree = node_from("((1 2) (1 3) (1 2))")
        one = [("block", (1, 2)), 1, 2]
        self.assertEqual(list(walk(tree)), [tree, *one, ("block", (1, 3)), 1, 3, *one])

    def test_as_the_definition_says(self):
        for runs in itertools.chain(reference.small_runs(), reference.many_runs(36, 12)):
            self.assertEqual(list(walk(tree_of(runs))), reference.walking(tree_of(runs)))
        for runs, times in reference.long_sequences():
            tree = reference.repeated(runs, times)
            self.assertEqual(list(walk(tree)), reference.walking(tree))


class CallsTest(unittest.TestCase):
    def test_by_name(self):
        tree = tree_of(((5, 2), (7, 1), (8, 1), (7, 1)))
        self.assertEqual(
            [element_at(index=2, tree=tree), elements_from(stop=9, tree=tree, start=1), count_of(element=7, tree=tree),
             way_to(index=3, tree=tree), list(walk(tree=tree))],
            [7, (5, 7, 8, 7), 2, way_to(tree, 3), list(walk(tree))],
        )

    def test_kinds_of_results(self):
        tree = tree_of(((5, 2), (7, 1), (8, 1), (7, 1)))
        for value in (element_at(tree, 0), count_of(tree, 5), count_of(tree, 6), count_of(7, 7), count_of(None, 7)):
            self.assertIs(type(value), int)
        for value in (elements_from(tree, 0, 2), elements_from(None, 0, 2), way_to(tree, 0), *way_to(tree, 0)):
            self.assertIs(type(value), tuple)
        self.assertEqual(way_to(tree, 4), way_to(copy.deepcopy(tree), 4))


if __name__ == "__main__":
    unittest.main()
