import copy
import itertools
import random
import unittest

import reference
from localblocks.editing import changed, joined, part, spliced
from localblocks.errors import NoRange, TooLong
from localblocks.nodes import size_of
from localblocks.trees import run_count, runs_of, tree_of

LARGE = 10 ** 60

# Runs of 300 pairs, and the trees of sequences of 301 runs and more.
MOST = tuple((at % 2, 1) for at in range(300))
TOO_LONG = (
    reference.tree(tuple((at % 2, 1) for at in range(301))),
    reference.repeated(((1, 1), (2, 1), (1, 1)), 150),  # equal elements melt where it is repeated: 301 runs
    ("run", ("block", (1, 2)), 151),
    ("run", ("block", (1, 2)), 10 ** 18),
    reference.repeated(((1, 1), (2, LARGE), (3, 1)), 10 ** 18),
)

# Pairs of values that bound no part of a sequence of at least 2 and at most 10 ** 80 elements.
NO_RANGES = (
    (1, 0), (2, 1), (-1, 1), (-1, -1), (0, -1), (0, 10 ** 90), (10 ** 90, 10 ** 90), (-(10 ** 5000), 10 ** 5000),
    (True, 1), (0, True), (False, True), (False, 0), (False, 1), (0, False), (None, None), (0, None), (None, 1),
    ("0", 1), (0, "1"), ("", ""), ([], []), ([0], [1]), (0, [1]), ((), 1), ((0,), (1,)), (0, (1,)), ({}, {}), ({0: 0}, 1),
    (0, {1: 1}), ((0, 1), None), ("a", -1),
)


class ExamplesTest(unittest.TestCase):
    def test_example(self):
        tree = tree_of(((1, 1), (2, 1), (1, 1), (2, 1)))
        self.assertEqual(
            [spliced(tree, 2, 4, ((3, 1),)), part(tree, 1, 3), joined(part(tree, 0, 2), part(tree, 2, 4)) == tree],
            [("block", (1, 2, 3)), ("block", (2, 1)), True],
        )
        self.assertEqual(changed(tree, ("block", (1, 2, 3))), ((2, 0, 2, 1), (0, 0, 1, 1)))

    def test_example_of_no_range(self):
        with self.assertRaises(NoRange) as caught:
            part(("run", 5, 3), 2, 4)
        self.assertEqual([caught.exception.start, caught.exception.stop], [2, 4])


class NoRangeTest(unittest.TestCase):
    def refuse(self, tree, start, stop):
        for call in (lambda: part(tree, start, stop), lambda: spliced(tree, start, stop, ()),
                     lambda: spliced(tree, start, stop, ((5, 1),)), lambda: spliced(tree, start, stop, MOST)):
            with self.assertRaises(NoRange) as caught:
                call()
            self.assertIs(caught.exception.start, start)
            self.assertIs(caught.exception.stop, stop)

    def test_values_that_bound_nothing(self):
        for tree in (("block", (1, 2)), ("run", 1, LARGE), tree_of(MOST)):
            for start, stop in NO_RANGES:
                before = copy.deepcopy((start, stop))
                self.refuse(tree, start, stop)
                self.assertEqual((start, stop), before)
        self.assertEqual([part(("run", 1, LARGE), 0, 1), part(("block", (1, 2)), 0, 2)], [1, ("block", (1, 2))])

    def test_strange_values(self):
        for value in (*reference.STRANGE_VALUES, *reference.deep_values()):
            self.refuse(("block", (1, 2)), value, 2)
            self.refuse(("block", (1, 2)), 0, value)
            self.refuse(("block", (1, 2)), value, value)
            self.refuse(None, value, 0)
            self.refuse(None, 0, value)

    def test_edges(self):
        for tree, size in ((None, 0), (5, 1), (("run", 5, LARGE), LARGE), (("block", (1, 2, 3)), 3)):
            for start, stop in ((0, size), (size, size), (0, 0)):
                self.assertEqual(part(tree, start, stop), tree if start < stop else None)
                self.assertEqual(spliced(tree, start, stop, ()), None if start < stop else tree)
            for start, stop in ((0, size + 1), (size + 1, size + 1), (size, size + 1), (-1, size), (-1, 0), (size, -1)):
                self.refuse(tree, start, stop)

    def test_ahead_of_too_long(self):
        for tree in TOO_LONG:
            for start, stop in (*NO_RANGES, (0, size_of(tree) + 1), (size_of(tree) + 1, size_of(tree) + 1)):
                self.refuse(tree, start, stop)


class TooLongTest(unittest.TestCase):
    def refuse(self, call):
        with self.assertRaises(TooLong) as caught:
            call()
        self.assertEqual(caught.exception.limit, 300)

    def test_trees_that_are_passed_in(self):
        for tree in TOO_LONG:
            size = size_of(tree)
            self.assertGreater(run_count(tree), 300)
            for start, stop in ((0, 0), (0, 1), (1, size), (0, size), (size, size)):
                self.refuse(lambda: part(tree, start, stop))
                self.refuse(lambda: spliced(tree, start, stop, ()))
                self.refuse(lambda: spliced(tree, start, stop, ((7, 1),)))
            for other in (None, 5, tree, tree_of(MOST)):
                self.refuse(lambda: joined(tree, other))
                self.refuse(lambda: joined(other, tree))
                self.refuse(lambda: changed(tree, other))
                self.refuse(lambda: changed(other, tree))
        self.assertEqual([run_count(tree) for tree in TOO_LONG[:3]], [301, 301, 302])

    def test_results_of_300_and_301_runs(self):
        tree = tree_of(MOST)
        self.assertEqual([runs_of(part(tree, 0, 300)), runs_of(joined(tree, None)), joined(None, tree)], [MOST, MOST, tree])
        self.assertEqual(runs_of(spliced(tree, 7, 8, ((9, 1),))), MOST[:7] + ((9, 1),) + MOST[8:])
        self.refuse(lambda: spliced(tree, 7, 7, ((9, 1),)))
        self.refuse(lambda: spliced(tree, 300, 300, ((0, 1),)))
        self.assertEqual(runs_of(spliced(tree, 300, 300, ((1, 5),))), MOST[:299] + ((1, 6),))
        self.assertEqual(run_count(spliced(tree, 299, 300, ((9, 2),))), 300)
        self.refuse(lambda: spliced(tree, 299, 300, ((9, 2), (1, 1))))
        self.refuse(lambda: joined(tree, 0))
        self.refuse(lambda: joined(1, tree))
        self.assertEqual([run_count(joined(tree, 1)), run_count(joined(0, tree))], [300, 300])
        short = tree_of(MOST[:299])
        self.assertEqual([joined(short, 1), run_count(joined(1, short)), run_count(joined(short, 9))], [tree, 300, 300])
        self.refuse(lambda: joined(short, ("block", (1, 0))))
        self.assertEqual(run_count(joined(short, ("block", (0, 1)))), 300)
        # Within a run: the two pieces that are left of it count.
        wide = tree_of(((5, 4),) + MOST[1:299])
        self.assertEqual(run_count(wide), 299)
        self.refuse(lambda: spliced(wide, 1, 2, ((9, 1),)))
        wide = tree_of(((5, 4),) + MOST[1:298])
        self.assertEqual(run_count(spliced(wide, 1, 2, ((9, 1),))), 300)

    def test_results_of_twice_as_many(self):
        tree = tree_of(MOST)
        self.refuse(lambda: joined(tree, tree))
        self.refuse(lambda: spliced(tree, 150, 150, MOST))
        self.assertEqual(spliced(tree, 0, 300, MOST), tree)


class SplicedTest(unittest.TestCase):
    def test_all_short_sequences(self):
        news = [reference.as_runs(new) for length in range(3) for new in itertools.product((1, 2, 3), repeat=length)]
        for length in range(5):
            for sequence in itertools.product((1, 2), repeat=length):
                tree = tree_of(reference.as_runs(sequence))
                for start, stop in itertools.combinations_with_replacement(range(length + 1), 2):
                    for runs in news:
                        whole = [*sequence[:start], *reference.as_sequence(runs), *sequence[stop:]]
                        self.assertEqual(spliced(tree, start, stop, runs), reference.tree(reference.as_runs(whole)))

    def test_as_the_list_says(self):
        chance = random.Random(40)
        for runs in reference.small_runs():
            tree, sequence = tree_of(runs), reference.as_sequence(runs)
            for _ in range(4):
                start, stop = sorted(chance.choices(range(len(sequence) + 1), k=2))
                new = reference.some_runs(chance, chance.randint(0, 9), (0, 1, 5, 7), (1, 2, 3))
                whole = sequence[:start] + reference.as_sequence(new) + sequence[stop:]
                self.assertEqual(spliced(tree, start, stop, new), reference.tree(reference.as_runs(whole)))

    def test_runs_melt(self):
        tree = tree_of(((5, 3), (7, 1), (5, LARGE // 2)))
        self.assertEqual(spliced(tree, 3, 4, ()), ("run", 5, LARGE // 2 + 3))
        self.assertEqual(spliced(tree, 3, 4, ((5, 2),)), ("run", 5, LARGE // 2 + 5))
        self.assertEqual(spliced(tree, 1, 3 + LARGE // 2, ()), ("run", 5, 2))
        self.assertEqual(spliced(("run", 5, 3), 1, 2, ((5, LARGE - 2),)), ("run", 5, LARGE))
        self.assertEqual(spliced(("run", 5, 3), 1, 2, ((5, 1), (6, 1), (5, 1))), tree_of(((5, 2), (6, 1), (5, 2))))

    def test_within_one_run(self):
        tree = ("run", 5, LARGE)
        self.assertEqual(spliced(tree, 10 ** 18, LARGE - 1, ((8, 1),)), ("block", (("run", 5, 10 ** 18), 8, 5)))
        self.assertEqual(spliced(tree, 7, LARGE - 7, ()), ("run", 5, 14))
        self.assertEqual(spliced(tree, LARGE // 2, LARGE // 2, ((8, 2), (9, 1))),
                         tree_of(((5, LARGE // 2), (8, 2), (9, 1), (5, LARGE // 2))))

    def test_nothing(self):
        self.assertEqual(spliced(None, 0, 0, ()), None)
        self.assertEqual(spliced(None, 0, 0, ((5, 2),)), ("run", 5, 2))
        self.assertEqual(spliced(None, 0, 0, MOST), tree_of(MOST))
        self.assertEqual(spliced(5, 0, 1, ()), None)


class PartTest(unittest.TestCase):
    def test_as_the_list_says(self):
        for runs in reference.small_runs():
            tree, sequence = tree_of(runs), reference.as_sequence(runs)
            for start in range(0, len(sequence) + 1, 1 + len(sequence) // 9):
                for stop in range(start, len(sequence) + 1, 1 + len(sequence) // 9):
                    some = reference.as_runs(sequence[start:stop])
                    self.assertEqual(part(tree, start, stop), reference.tree(some))

    def test_both_ends_of_each_run(self):
        for runs in reference.many_runs(41, 6, 40):
            tree, begin = tree_of(runs), 0
            for at, (element, count) in enumerate(runs):
                end = begin + count
                self.assertEqual(part(tree, begin, begin), None)
                self.assertEqual([part(tree, begin, begin + 1), part(tree, end - 1, end)], [element, element])
                self.assertEqual(part(tree, begin, end), reference.tree(runs[at:at + 1]))
                self.assertEqual(part(tree, 0, end), reference.tree(runs[:at + 1]))
                self.assertEqual(part(tree, begin, size_of(tree)), reference.tree(runs[at:]))
                begin = end

    def test_within_one_run(self):
        self.assertEqual([part(("run", 5, LARGE), 1, 2), part(("run", 5, LARGE), LARGE - 1, LARGE)], [5, 5])
        self.assertEqual(part(("run", 5, LARGE), 1, LARGE), ("run", 5, LARGE - 1))
        self.assertEqual(part(tree_of(((4, 1), (5, LARGE), (4, 1))), 10, 30), ("run", 5, 20))


class JoinedTest(unittest.TestCase):
    def test_all_short_sequences(self):
        some = [short for length in range(5) for short in itertools.product((1, 2), repeat=length)]
        for one, other in itertools.product(some, some):
            whole = reference.tree(reference.as_runs(one + other))
            self.assertEqual(joined(tree_of(reference.as_runs(one)), tree_of(reference.as_runs(other))), whole)

    def test_runs_melt(self):
        self.assertEqual(joined(("run", 5, LARGE - 1), 5), ("run", 5, LARGE))
        self.assertEqual(joined(5, 5), ("run", 5, 2))
        self.assertEqual(joined(tree_of(((4, 1), (5, 2))), tree_of(((5, 3), (4, 1)))), tree_of(((4, 1), (5, 5), (4, 1))))

    def test_none(self):
        for tree in (None, 5, ("run", 5, LARGE), tree_of(MOST)):
            self.assertEqual([joined(tree, None), joined(None, tree)], [tree, tree])

    def test_pieces_of_a_sequence(self):
        chance = random.Random(42)
        for runs in reference.many_runs(43, 30):
            tree = tree_of(runs)
            size = sum(count for _, count in runs)
            at = chance.randint(0, size)
            self.assertEqual(joined(part(tree, 0, at), part(tree, at, size)), tree)


class ChangedTest(unittest.TestCase):
    def test_edges(self):
        for one, other, rows in (
            (None, None, ()),
            (None, 5, ((0, 0, 0, 1),)),
            (5, None, ((0, 0, 1, 0),)),
            (5, 5, ((1, 0, 0, 0),)),
            (5, ("run", 5, 2), ((0, 0, 1, 1),)),
            (("run", 5, 2), ("run", 5, LARGE), ((0, 0, 1, 1),)),
            (5, ("block", (5, 6)), ((1, 0, 0, 1), (0, 0, 0, 1))),
            (6, ("block", (5, 6)), ((0, 1, 0, 1), (0, 0, 0, 1))),
            (("block", (5, 6)), None, ((0, 0, 2, 0), (0, 0, 1, 0))),
            # left is counted first: the 5 in the middle of the first row is left of both.
            (("block", (5, 6)), ("block", (5, 6, 5)), ((2, 0, 0, 1), (0, 0, 1, 1))),
            (("block", (5, 6, 5)), 5, ((1, 0, 2, 0), (0, 0, 1, 0))),
        ):
            self.assertEqual(changed(one, other), rows)

    def test_equal_sequences(self):
        for runs in reference.many_runs(44, 12):
            rows = reference.all_rows(runs)
            self.assertEqual(changed(tree_of(runs), tree_of(runs)), tuple((len(row), 0, 0, 0) for row in rows))

    def test_as_the_definition_says(self):
        runs = list(reference.small_runs())
        for one, other in zip(runs, runs[1:]):
            self.assertEqual(changed(tree_of(one), tree_of(other)), reference.changes(one, other))
        chance = random.Random(45)
        for one in reference.many_runs(46, 40, 299):
            at = chance.randint(0, len(one))
            for other in (one[:at], one[at:], reference.melted(one[:at] + ((77, 1),) + one[at + 1:])):
                self.assertEqual(changed(tree_of(one), tree_of(other)), reference.changes(one, other))
                self.assertEqual(changed(tree_of(other), tree_of(one)), reference.changes(other, one))

    def test_one_entry_for_each_row_number(self):
        one, other = tree_of(MOST), tree_of(tuple((at, 1) for at in range(300)))
        rows, others = reference.all_rows(MOST), reference.all_rows(tuple((at, 1) for at in range(300)))
        self.assertNotEqual(len(rows), len(others))
        self.assertEqual(len(changed(one, other)), max(len(rows), len(others)))
        for row, (left, right, many, more) in itertools.zip_longest(rows, changed(one, other), fillvalue=()):
            self.assertEqual(left + right + many, len(row))
        for row, (left, right, many, more) in itertools.zip_longest(others, changed(one, other), fillvalue=()):
            self.assertEqual(left + right + more, len(row))


class CallsTest(unittest.TestCase):
    def test_by_name(self):
        tree = tree_of(((1, 1), (2, 1), (1, 1), (2, 1)))
        self.assertEqual(
            [spliced(runs=((3, 1),), stop=4, start=2, tree=tree), part(stop=3, tree=tree, start=1),
             joined(other=5, one=tree), changed(other=("block", (1, 2, 3)), one=tree)],
            [("block", (1, 2, 3)), ("block", (2, 1)), joined(tree, 5), ((2, 0, 2, 1), (0, 0, 1, 1))],
        )

    def test_arguments_stay_and_equal_calls_are_equal(self):
        tree, other, runs = tree_of(MOST[:40]), tree_of(((1, 3), (2, LARGE), (0, 1))), ((4, 2), (5, 1))
        before = copy.deepcopy((tree, other, runs))
        for call in (lambda: spliced(tree, 3, 9, runs), lambda: part(other, 2, 10 ** 18), lambda: joined(tree, other),
                     lambda: changed(tree, other)):
            self.assertEqual(call(), call())
        for call in (lambda: spliced(tree, 9, 3, runs), lambda: part(tree, 0, 41), lambda: changed(TOO_LONG[0], tree)):
            for _ in range(2):
                with self.assertRaises((NoRange, TooLong)):
                    call()
        self.assertEqual((tree, other, runs), before)

    def test_kinds_of_results(self):
        for entry in changed(tree_of(MOST), None):
            self.assertEqual([type(entry), *map(type, entry)], [tuple, int, int, int, int])
        self.assertIs(type(changed(None, None)), tuple)


if __name__ == "__main__":
    unittest.main()
