import copy
import itertools
import random
import unittest

import reference
from localblocks.comparing import evidence, first_difference, same_stretch, shows_common
from localblocks.editing import changed, joined, part, spliced
from localblocks.errors import NoIndex, NoRange, TooLong
from localblocks.nodes import is_node, level_of, node_from, size_of, text_of
from localblocks.reading import count_of, element_at, elements_from, walk, way_to
from localblocks.repeating import repeated
from localblocks.sharing import cost_of, fresh, nodes_of, shared
from localblocks.trees import is_tree, rows_of, run_count, runs_of, tree_of

LARGE = 10 ** 60
MOST = 10 ** 18


def right(runs, times):
    """The tree of the whole sequence, as section 3 says it."""
    return reference.tree(reference.melted(runs * times))


def some_repeated(seed, many):
    """Runs of many kinds: of 2 to 40 pairs, with equal and unlike ends, and such as repeat something themselves."""
    chance = random.Random(seed)
    for time in range(many):
        alphabet = reference.ALPHABETS[time % len(reference.ALPHABETS)]
        counts = ((1,), (1, 1, 2, 3), (1, 2, 10 ** 40))[time % 3]
        runs = reference.some_runs(chance, chance.choice((2, 2, 3, 3, 4, 5, 6, 7, 11, 17, 26, 39, 40)), alphabet, counts)
        if time % 4 == 0:
            runs = reference.melted(runs[:6] * chance.randint(2, 6))
        if time % 4 == 1 and runs[0][0] != runs[-1][0]:
            runs = (*runs[:39], (runs[0][0], chance.choice(counts))) if runs[:39][-1][0] != runs[0][0] else runs
        yield runs


class ExamplesTest(unittest.TestCase):
    def test_example(self):
        self.assertEqual(
            [repeated(((5, 2),), 10 ** 18), repeated(((1, 1), (2, 1)), 2), run_count(repeated(((1, 1), (2, 1)), 10 ** 18)),
             element_at(repeated(((1, 1), (2, 1)), 10 ** 18), 10 ** 17)],
            [("run", 5, 2000000000000000000), ("run", ("block", (1, 2)), 2), 2000000000000000000, 1],
        )


class SmallTimesTest(unittest.TestCase):
    def test_all_short_sequences(self):
        for length in range(1, 7):
            for sequence in itertools.product((1, 2), repeat=length):
                runs = reference.as_runs(sequence)
                for times in range(1, 15):
                    self.assertEqual(repeated(runs, times), right(runs, times), (runs, times))

    def test_all_short_runs_of_other_elements(self):
        for sequence in itertools.product((0, 10, 100, 11), repeat=4):
            runs = reference.as_runs(sequence)
            for times in (1, 2, 3, 5, 6, 7, 8, 13, 20):
                self.assertEqual(repeated(runs, times), right(runs, times), (runs, times))

    def test_many_kinds(self):
        for runs in some_repeated(70, 60):
            for times in (1, 2, 3, 5, 6, 7, 8, 9, 12, 19):
                self.assertEqual(repeated(runs, times), right(runs, times), (runs, times))

    def test_around_each_row_in_which_the_copies_are_not_shown(self):
        for runs in (((1, 1), (2, 1)), ((1, 1), (2, 2), (1, 1)), ((3, 1), (1, 1), (2, 1), (1, 1)),
                     tuple((at, 1) for at in range(40)), tuple((at % 39, 1) for at in range(40))):
            for times in range(1, 45):
                self.assertEqual(repeated(runs, times), right(runs, times), (runs, times))

    def test_once(self):
        for runs in (((0, 1),), ((10 ** 9, LARGE),), ((1, 1), (2, 1)), ((1, 1), (2, 1), (1, 1)),
                     *some_repeated(71, 12), tuple((at, LARGE) for at in range(40))):
            self.assertEqual(repeated(runs, 1), tree_of(runs))


class MeltingTest(unittest.TestCase):
    def test_one_run(self):
        for element, count, times in ((5, 1, 1), (5, 1, 2), (5, 7, 1), (0, 1, MOST), (10 ** 9, 10 ** 42, MOST), (5, 2, 3)):
            whole = count * times
            self.assertEqual(repeated(((element, count),), times), ("run", element, whole) if whole > 1 else element)

    def test_the_last_element_is_the_first_one_too(self):
        for runs, times, count in ((((1, 1), (2, 1), (1, 1)), MOST, 2 * MOST + 1), (((1, 3), (2, 9), (1, 4)), 7, 15),
                                   (((1, 10 ** 41), (2, 1), (3, 1), (1, 5)), MOST, 3 * MOST + 1)):
            tree = repeated(runs, times)
            self.assertEqual(run_count(tree), count)
            self.assertEqual(size_of(tree), sum(count for _, count in runs) * times)
            melted = runs[0][1] + runs[-1][1]
            self.assertIn(("run", 1, melted), nodes_of(tree))
        self.assertEqual(repeated(((1, 1), (2, 1), (1, 1)), 2), tree_of(((1, 1), (2, 1), (1, 2), (2, 1), (1, 1))))
        self.assertEqual(repeated(((1, 1), (2, 1), (1, 1)), 3), node_from("((1 2) (1^2 2) (1^2 2 1))"))

    def test_melted_sequences_repeat_another_one(self):
        # What is between the borders is 2 1^2 2 1^2 .., however it is written.
        one = repeated(((1, 1), (2, 1), (1, 1)), 10 ** 17)
        other = joined(1, part(repeated(((2, 1), (1, 2)), 90), 0, 200))
        self.assertIs(same_stretch(one, 0, other, 0, 201), True)

    def test_written_more_than_once_already(self):
        for runs, many in ((((1, 1), (2, 1)), 20), (((1, 1), (2, 3), (3, 1)), 13), (((1, 1), (2, 1), (1, 1)), 19),
                           (((7, 2),), 5), (((1, 1), (2, 1), (1, 1), (3, 1)), 10)):
            whole = reference.melted(runs * many)
            self.assertLessEqual(len(whole), 40)
            for times in (1, 2, 7, 500, MOST // many):
                self.assertEqual(repeated(whole, times), repeated(runs, many * times))


class GreatTimesTest(unittest.TestCase):
    def test_against_another_way(self):
        for runs, times in reference.long_sequences():
            for many in (times, MOST, MOST - 1, 72, 10 ** 6):
                self.assertEqual(repeated(runs, many), reference.repeated(runs, many), (runs, many))
        for runs in some_repeated(72, 40):
            for many in (71, 74, 1000, MOST - 3, MOST):
                self.assertEqual(repeated(runs, many), reference.repeated(runs, many), (runs, many))

    def test_joined(self):
        for runs in some_repeated(73, 40):
            few = 290 // len(runs)
            for one, other in ((1, 1), (1, few - 1), (few // 2, few // 2), (few - 2, 2)):
                if one > 0 and other > 0:
                    whole = joined(repeated(runs, one), repeated(runs, other))
                    self.assertEqual(whole, repeated(runs, one + other), (runs, one, other))

    def test_one_behind_the_other_far_too_long(self):
        for runs in some_repeated(74, 24):
            size = sum(count for _, count in runs)
            for one, other in ((10 ** 17, 9 * 10 ** 17), (MOST - 1, 1), (1, MOST - 1), (500, 77)):
                whole, begin, end = repeated(runs, one + other), repeated(runs, one), repeated(runs, other)
                self.assertEqual(first_difference(whole, begin), size * one)
                self.assertIs(same_stretch(whole, 0, begin, 0, size * one), True)
                self.assertIs(same_stretch(whole, size * one, end, 0, size * other), True)
                self.assertIs(shows_common(whole, begin, evidence(whole, begin)), True)

    def test_one_copy_more(self):
        for runs in some_repeated(75, 24):
            size, melts = sum(count for _, count in runs), runs[0][0] == runs[-1][0]
            pairs = len(runs) - (1 if melts else 0)
            for times in (1, 3, 8, 100, MOST - 1):
                one, more = repeated(runs, times), repeated(runs, times + 1)
                self.assertEqual([size_of(one), size_of(more)], [size * times, size * (times + 1)])
                if len(runs) > 1:
                    self.assertEqual([run_count(one), run_count(more)],
                                     [pairs * times + melts, pairs * (times + 1) + melts])
                self.assertEqual(first_difference(one, more), size * times)

    def test_repeated_of_repeated(self):
        for runs in some_repeated(76, 60):
            for times in (1, 2, 3, 9):
                whole = repeated(runs, times)
                if run_count(whole) <= 40:
                    for many in (1, 2, 5, 10 ** 17):
                        self.assertEqual(repeated(runs_of(whole), many), repeated(runs, times * many))

    def test_40_runs_as_often_as_can_be(self):
        for runs in (tuple((at, 1) for at in range(40)), tuple((at % 2, 1) for at in range(40)),
                     tuple((at % 3, 10 ** 41 + at) for at in range(40)), tuple((at % 39, 1) for at in range(40))):
            tree = repeated(runs, MOST)
            self.assertEqual(tree, reference.repeated(runs, MOST))
            melts = runs[0][0] == runs[-1][0]
            self.assertEqual(run_count(tree), (40 - melts) * MOST + melts)


class FunctionsTest(unittest.TestCase):
    """The sections 5 and 7 to 11, for trees of any number of runs."""

    def cases(self, seed, many):
        chance = random.Random(seed)
        for runs in some_repeated(seed, many):
            times = chance.choice((2, 9, 301, 10 ** 9, MOST - 1, MOST))
            yield chance, runs, times, repeated(runs, times), sum(count for _, count in runs)

    def test_nodes_and_trees(self):
        seen = {True: 0, False: 0}
        for _, runs, times, tree, size in self.cases(80, 80):
            self.assertIs(is_node(tree), True)
            self.assertEqual([size_of(tree), text_of(tree)], [size * times, reference.text(tree)])
            self.assertEqual(node_from(text_of(tree)), tree)
            short = run_count(tree) <= 300
            seen[short] += 1
            self.assertIs(is_tree(tree), short)
            if short:
                self.assertEqual(runs_of(tree), reference.melted(runs * times))
                self.assertEqual([rows_of(runs_of(tree))[-1], level_of(tree)], [(tree,), len(rows_of(runs_of(tree))) - 1])
            else:
                with self.assertRaises(TooLong) as caught:
                    runs_of(tree)
                self.assertEqual(caught.exception.limit, 300)
        self.assertGreater(min(seen.values()), 10)

    def test_300_and_301_runs(self):
        for runs, times, many in ((((1, 1), (2, 1)), 150, 300), (((1, 1), (2, 1), (1, 1)), 150, 301),
                                  (((1, 1), (2, 1)), 151, 302), (((1, 1), (2, 1), (3, 1)), 100, 300),
                                  (((1, 1), (2, 1), (3, 1), (1, 1)), 100, 301), (tuple((at, 9) for at in range(30)), 10, 300)):
            tree = repeated(runs, times)
            self.assertEqual([run_count(tree), is_tree(tree)], [many, many <= 300])
            for call in (lambda: runs_of(tree), lambda: part(tree, 0, 1), lambda: spliced(tree, 0, 1, ()),
                         lambda: joined(tree, None), lambda: joined(None, tree), lambda: changed(tree, 5),
                         lambda: changed(5, tree)):
                if many <= 300:
                    call()
                else:
                    with self.assertRaises(TooLong) as caught:
                        call()
                    self.assertEqual(caught.exception.limit, 300)

    def test_reading(self):
        for chance, runs, times, tree, size in self.cases(81, 40):
            whole = size * times
            ends = list(itertools.accumulate(count for _, count in runs))
            for index in (0, size - 1, size, whole - 1, chance.randrange(whole), chance.randrange(whole)):
                element = next(e for (e, _), end in zip(runs, ends) if index % size < end)
                self.assertEqual(element_at(tree, index), element)
                self.assertEqual([way_to(tree, index)[0], way_to(tree, index)[-1]], [(tree, 0), (element, index)])
                some = elements_from(tree, index, index + 9)
                self.assertEqual(some, tuple(element_at(tree, at) for at in range(index, min(index + 9, whole))))
            for index in (whole, -1, True, None, str(whole)):
                with self.assertRaises(NoIndex) as caught:
                    element_at(tree, index)
                self.assertIs(caught.exception.index, index)
            for element in {element for element, _ in runs}:
                many = sum(count for other, count in runs if other == element)
                self.assertEqual(count_of(tree, element), many * times)
            self.assertEqual(list(walk(tree)), reference.walking(tree))

    def test_editing(self):
        for chance, runs, times, tree, size in self.cases(82, 40):
            start, stop = sorted((chance.randrange(size * times + 1), chance.randrange(size * times + 1)))
            with self.assertRaises(NoRange):
                part(tree, start, size * times + 1)
            if run_count(tree) > 300:
                for call in (lambda: part(tree, start, stop), lambda: spliced(tree, start, stop, ()),
                             lambda: joined(tree, tree), lambda: changed(None, tree)):
                    self.assertRaises(TooLong, call)
            else:
                pieces = part(tree, 0, start), part(tree, start, stop), part(tree, stop, size * times)
                self.assertEqual(joined(joined(*pieces[:2]), pieces[2]), tree)
                self.assertEqual(spliced(tree, start, stop, runs_of(pieces[1])), tree)

    def test_sharing(self):
        trees = [tree for _, _, _, tree, _ in self.cases(83, 30)]
        for one, other in zip(trees, trees[1:]):
            known, found = reference.inner_nodes(one), reference.inner_nodes(other)
            self.assertEqual(nodes_of(one), reference.in_order(known))
            self.assertEqual(shared(one, other), reference.in_order(known & found))
            self.assertEqual(fresh(one, other), reference.in_order(found - known))
            self.assertEqual(cost_of((one, None, other, one)), len(known | found))

    def test_few_nodes_however_often(self):
        for runs in some_repeated(84, 20):
            costs = [cost_of((repeated(runs, times),)) for times in (500, 10 ** 9, MOST)]
            self.assertLessEqual(max(costs), min(costs) + 12)

    def test_evidence(self):
        for chance, runs, times, tree, size in self.cases(85, 60):
            at = chance.randrange(len(runs))
            others = [tree_of(runs), None, repeated(runs, max(1, times // 3)), repeated(runs, times)]
            others.append(repeated(reference.melted(runs[:at] + ((777, 1),) + runs[at + 1:]), times))
            others.append(repeated(reference.melted(runs[at:] + runs[:at])[:40], times))
            if run_count(tree_of(runs)) < 30:
                others.append(joined(repeated(runs, 9), 777))
            for one, other in itertools.product(others, (tree, *others[:2])):
                found = evidence(one, other)
                common = sum(size_of(node) * many for node, many in found)
                self.assertIs(shows_common(one, other, found), True)
                self.assertEqual(first_difference(one, other), None if one == other else common)
                self.assertIs(same_stretch(one, 0, other, 0, common), True)
                if one != other and one is not None and other is not None and common < min(size_of(one), size_of(other)):
                    self.assertNotEqual(element_at(one, common), element_at(other, common))
                rows = max(0 if some is None else level_of(some) + 1 for some in (one, other))
                self.assertLessEqual(len(found), 8 * rows)


class CallsTest(unittest.TestCase):
    def test_by_name(self):
        self.assertEqual(repeated(times=2, runs=((1, 1), (2, 1))), ("run", ("block", (1, 2)), 2))

    def test_arguments_stay_and_equal_calls_are_equal(self):
        for runs in some_repeated(86, 9):
            before = copy.deepcopy(runs)
            self.assertEqual(repeated(runs, 10 ** 15), repeated(copy.deepcopy(runs), 10 ** 15))
            self.assertEqual(runs, before)

    def test_somewhat_beyond_the_limits(self):
        self.assertEqual(run_count(repeated(tuple((at, 1) for at in range(60)), 10 ** 19)), 60 * 10 ** 19)
        self.assertEqual(repeated(((5, 2),), 10 ** 18 + 1), ("run", 5, 2 * 10 ** 18 + 2))


if __name__ == "__main__":
    unittest.main()
