import copy
import itertools
import random
import unittest

import reference
from localblocks.comparing import evidence, first_difference, same_stretch, shows_common
from localblocks.editing import joined, part, spliced
from localblocks.nodes import is_node, node_from, size_of
from localblocks.trees import tree_of

LARGE = 10 ** 60
BOOLEANS = {0: False, 1: True}


def small_pairs():
    """Pairs of trees of short sequences: all very short ones, and longer ones that begin alike."""
    short = [tree_of(reference.as_runs(some)) for length in range(5) for some in itertools.product((1, 2), repeat=length)]
    yield from itertools.product(short, short)
    chance = random.Random(60)
    for runs in itertools.islice(reference.small_runs(), 31, None):
        tree, sequence = tree_of(runs), reference.as_sequence(runs)
        start, stop = sorted(chance.choices(range(len(sequence) + 1), k=2))
        new = reference.some_runs(chance, chance.randint(0, 3), (0, 1, 2))
        yield tree, tree
        yield tree, tree_of(reference.as_runs(sequence[:stop]))
        yield tree_of(reference.as_runs(sequence[:start] + reference.as_sequence(new) + sequence[stop:])), tree


def large_pairs():
    """Pairs of trees with the number of elements that they have in common from the beginning."""
    for runs, times in reference.long_sequences():
        tree, size = reference.repeated(runs, times), sum(count for _, count in runs)
        for less in (1, 2, 77, 10 ** 16, times - 1, times - 75):
            yield tree, reference.repeated(runs, times - less), size * (times - less)
        yield tree, part(tree_of(runs), 0, size - 1), size - 1
    for runs in reference.many_runs(61, 24, 298):
        tree, begin, size = tree_of(runs), 0, sum(count for _, count in runs)
        for element, count in runs[:3] + runs[-3:]:
            for at in (begin, begin + count // 2):
                if at < size and runs[:3] != runs[-3:]:
                    here = next(e for e, end in zip([e for e, _ in runs], itertools.accumulate(c for _, c in runs))
                                if at < end)
                    yield tree, spliced(tree, at, at + 1, ((here + 1000 if here < 99 else here - 3, 1),)), at
            begin = begin + count if element == runs[0][0] else size - count
        yield tree, part(tree, 0, size // 2), size // 2
        yield tree, joined(tree, 999), size


class ExamplesTest(unittest.TestCase):
    def test_example(self):
        tree, other = tree_of(((1, 1), (2, 1), (1, 1), (2, 1))), tree_of(((1, 1), (2, 1), (3, 1)))
        self.assertEqual(
            [first_difference(tree, other), first_difference(tree, tree), same_stretch(tree, 1, tree, 3, 1),
             same_stretch(tree, 0, other, 1, 2)],
            [2, None, True, False],
        )
        self.assertEqual(
            [shows_common(tree, other, ((1, 1), (2, 1))), shows_common(tree, other, ((1, 1),)),
             shows_common(tree, other, evidence(tree, other)), shows_common(tree, tree, ((("block", (1, 2)), 2),))],
            [True, False, True, True],
        )


class FirstDifferenceTest(unittest.TestCase):
    def test_as_the_lists_say(self):
        for one, other in small_pairs():
            some, others = reference.sequence_of(one), reference.sequence_of(other)
            right = None if some == others else reference.common(some, others)
            self.assertEqual([first_difference(one, other), first_difference(other, one)], [right, right])

    def test_edges(self):
        for one, other, at in (
            (None, None, None), (None, 5, 0), (5, 5, None), (5, 6, 0), (5, ("run", 5, 2), 1), (("run", 5, 2), 5, 1),
            (("run", 5, LARGE), ("run", 5, LARGE), None), (("run", 5, LARGE), ("run", 5, LARGE - 1), LARGE - 1),
            (("run", 5, LARGE), ("run", 6, LARGE), 0), (None, ("run", 5, LARGE), 0), (("block", (1, 2)), 1, 1),
            (tree_of(((5, LARGE), (6, LARGE))), tree_of(((5, LARGE), (6, LARGE - 1), (5, 1))), 2 * LARGE - 1),
            (("run", ("block", (1, 2)), 10 ** 18), ("run", ("block", (1, 2)), 10 ** 18 - 1), 2 * 10 ** 18 - 2),
            (("run", ("block", (1, 2)), 10 ** 18), tree_of(((1, 1), (2, 1)) * 150), 300),
            (("run", ("block", (1, 2)), 10 ** 18), tree_of(((1, 1), (2, 1)) * 149 + ((1, 1),)), 299),
            (("run", ("block", (1, 2)), 10 ** 18), tree_of(((1, 1), (2, 1)) * 149 + ((1, 1), (3, 1))), 299),
        ):
            self.assertEqual([first_difference(one, other), first_difference(other, one)], [at, at])

    def test_far_too_long(self):
        for one, other, common in large_pairs():
            self.assertEqual([first_difference(one, other), first_difference(other, one)], [common, common])
            self.assertIsNone(first_difference(one, copy.deepcopy(one)))

    def test_how_a_sequence_was_made(self):
        for runs in reference.many_runs(62, 9):
            tree, size = tree_of(runs), sum(count for _, count in runs)
            again = joined(part(tree, 0, size // 3), part(tree, size // 3, size))
            self.assertIsNone(first_difference(tree, again))


class SameStretchTest(unittest.TestCase):
    def test_all_stretches(self):
        for one, other in itertools.islice(small_pairs(), 0, None, 7):
            some, others = reference.sequence_of(one), reference.sequence_of(other)
            for first, second in itertools.product(range(0, len(some) + 1, 1 + len(some) // 6),
                                                   range(0, len(others) + 1, 1 + len(others) // 6)):
                common = reference.common(some[first:], others[second:])
                for length in {0, 1, common, common + 1, len(some), len(others)}:
                    if first + length <= len(some) and second + length <= len(others):
                        self.assertIs(same_stretch(one, first, other, second, length), length <= common)

    def test_edges(self):
        large, twelve = ("run", 5, LARGE), ("run", ("block", (1, 2)), 10 ** 18)
        for one, first, other, second, length, same in (
            (None, 0, None, 0, 0, True), (None, 0, 5, 0, 0, True), (None, 0, 5, 1, 0, True), (5, 1, 6, 1, 0, True),
            (5, 0, 5, 0, 1, True), (5, 0, 6, 0, 1, False), (5, 0, 6, 0, 0, True),
            (large, 0, large, 0, LARGE, True), (large, 0, large, 7, LARGE - 7, True), (large, LARGE, large, 0, 0, True),
            (large, LARGE - 1, 5, 0, 1, True), (large, 3, ("run", 6, LARGE), 3, 1, False),
            (twelve, 0, twelve, 2, 2 * 10 ** 18 - 2, True), (twelve, 0, twelve, 1, 1, False), (twelve, 0, twelve, 1, 0, True),
            (twelve, 1, twelve, 10 ** 18 + 1, 10 ** 18 - 1, True), (twelve, 1, twelve, 10 ** 18, 1, False),
            (twelve, 3, tree_of(((2, 1), (1, 1)) * 150), 0, 300, True),
            (twelve, 10 ** 17, tree_of(((2, 1), (1, 1)) * 150), 1, 299, True),
            (twelve, 10 ** 17, tree_of(((1, 1), (2, 1)) * 149 + ((1, 1), (3, 1))), 0, 299, True),
            (twelve, 10 ** 17, tree_of(((1, 1), (2, 1)) * 149 + ((1, 1), (3, 1))), 0, 300, False),
        ):
            self.assertIs(same_stretch(one, first, other, second, length), same)
            self.assertIs(same_stretch(other, second, one, first, length), same)

    def test_a_part_is_where_it_was(self):
        chance = random.Random(63)
        for runs in reference.many_runs(64, 40):
            tree, size = tree_of(runs), sum(count for _, count in runs)
            start, stop = sorted(chance.choices(range(size + 1), k=2)) if size < 10 ** 9 else (size // 7, size // 2)
            some = part(tree, start, stop)
            self.assertIs(same_stretch(tree, start, some, 0, stop - start), True)
            if stop > start:
                at = chance.randrange(stop - start)
                other = spliced(some, at, at + 1, ((12345, 1),)) if len(runs) < 290 else some
                self.assertIs(same_stretch(tree, start, other, 0, stop - start), len(runs) >= 290)
                self.assertIs(same_stretch(tree, start, other, 0, at), True)
                self.assertIs(same_stretch(tree, start + at + 1, other, at + 1, stop - start - at - 1), True)

    def test_far_too_long(self):
        chance = random.Random(65)
        for runs, times in reference.long_sequences():
            tree, size = reference.repeated(runs, times), sum(count for _, count in runs)
            end = size * times
            for _ in range(6):
                # Whole repeats apart, the elements are equal.
                first, second = chance.randrange(end), chance.randrange(end)
                second += (first - second) % size
                length = end - max(first, second)
                if length > 0:
                    self.assertIs(same_stretch(tree, first, tree, second, length), True)
                    self.assertIs(same_stretch(tree, first, tree, second, chance.randint(0, length)), True)
            # Turned by one element, it is another sequence, and stands in the first one.
            turned = reference.melted(runs * 2)
            turned = reference.as_runs(reference.as_sequence(turned)[1:size + 1]) if size < 999 else None
            if turned and turned[0][0] != turned[-1][0]:
                other = reference.repeated(turned, times)
                self.assertIs(same_stretch(tree, 1, other, 0, end - 1), True)
                self.assertIs(same_stretch(tree, size + 1, other, size, end - size - 1), True)
                self.assertIs(same_stretch(tree, size, other, size, end - size), False)

    def test_the_last_element_is_another_one(self):
        for runs, times in reference.long_sequences():
            tree, size = reference.repeated(runs, times), sum(count for _, count in runs)
            if runs[0][0] != runs[-1][0] and runs[-1][1] < 99:
                other = reference.repeated(runs[:-1] + ((runs[-1][0], 99),), 2)
                self.assertIs(same_stretch(tree, size, other, 0, size), True)
                self.assertIs(same_stretch(tree, size, other, 0, size + 1), False)


class EvidenceTest(unittest.TestCase):
    def check(self, one, other, common):
        found = evidence(one, other)
        self.assertIs(type(found), tuple)
        for pair in found:
            self.assertEqual([type(pair), len(pair), is_node(pair[0]), type(pair[1])], [tuple, 2, True, int])
            self.assertGreaterEqual(pair[1], 1)
        self.assertEqual(sum(size_of(node) * times for node, times in found), common)
        self.assertIs(shows_common(one, other, found), True)
        self.assertLessEqual(len(found), 8 * max(map(row_number, (one, other))))
        return found

    def test_as_the_definition_says(self):
        for one, other in itertools.islice(small_pairs(), 0, None, 3):
            common = reference.common(reference.sequence_of(one), reference.sequence_of(other))
            for found in (self.check(one, other, common), self.check(other, one, common)):
                self.assertTrue(reference.is_evidence(one, other, found))

    def test_far_too_long(self):
        for one, other, common in large_pairs():
            self.check(one, other, common)
            self.check(other, one, common)

    def test_none_in_common(self):
        for one, other in ((None, None), (None, 5), (5, 6), (("run", 5, LARGE), ("block", (1, 2)))):
            self.assertEqual([evidence(one, other), evidence(other, one)], [(), ()])

    def test_equal_sequences(self):
        for runs in reference.many_runs(66, 12):
            tree = tree_of(runs)
            self.check(tree, tree, sum(count for _, count in runs))


def row_number(tree):
    """How many rows the sequence of a tree has."""
    if tree is None:
        return 0
    number = 1
    while isinstance(tree, tuple):
        number, tree = number + (tree[0] == "block"), tree[1] if tree[0] == "run" else tree[1][0]
    return number


def changed_values(pairs):
    """Pairs that are moved, left out, doubled, split, put together, or otherwise than those that are given."""
    yield from (pairs + pairs[:1], pairs + pairs[-1:], pairs + pairs, pairs[1:], pairs[:-1], pairs[::-1], (), (pairs,))
    for at, (node, times) in enumerate(pairs):
        ahead, behind = pairs[:at], pairs[at + 1:]
        yield from (ahead + behind, ahead + pairs[at:at + 1] + pairs[at:], behind + pairs[at:at + 1] + ahead)
        for other in (times - 1, times + 1, 2 * times, -times, 0, 1):
            yield ahead + ((node, other),) + behind
        for less in {1, times // 2}:
            yield ahead + ((node, times - less), (node, less)) + behind
        yield ahead + ((("run", node, times), 1),) + behind
        for inner in reference.parts(node)[:1]:
            yield ahead + tuple((inner, 1) for inner in reference.parts(node)) * times + behind
            yield ahead + ((inner, len(reference.parts(node))),) * times + behind
            yield ahead + ((inner, times),) + behind
        for other in others_of_this_size(node):
            yield ahead + ((other, times),) + behind


def others_of_this_size(node):
    """Nodes with as many elements, one of them another one, or in another order."""
    if isinstance(node, int):
        yield node + 1
    elif node[0] == "run":
        yield from (("run", other, node[2]) for other in others_of_this_size(node[1]))
    else:
        for at, inner in enumerate(node[1]):
            for other in others_of_this_size(inner):
                yield ("block", node[1][:at] + (other,) + node[1][at + 1:])
        if node[1] != node[1][::-1]:
            yield ("block", node[1][::-1])


class ShowsCommonTest(unittest.TestCase):
    def check(self, one, other, value):
        right = reference.is_evidence(one, other, value)
        self.assertIs(shows_common(one, other, value), right, (one, other, value))
        return right

    def test_all_short_values(self):
        # Of up to three pairs, with the nodes of the trees and times up to 3.
        trees = [tree_of(reference.as_runs(some)) for some in (
            (), (1,), (1, 1), (1, 2), (1, 1, 1), (1, 2, 1), (1, 1, 2), (1, 2, 1, 2), (1, 2, 1, 2, 1, 2), (1, 1, 1, 2, 2),
        )]
        seen = {True: 0, False: 0}
        for one, other in itertools.combinations_with_replacement(trees, 2):
            nodes = sorted({node for tree in (one, other) for node in reference.walking(tree)}, key=reference.text)
            pairs = list(itertools.product(nodes, (1, 2, 3)))
            for length in range(3 if len(pairs) > 12 else 4):
                for value in itertools.product(pairs, repeat=length):
                    seen[self.check(one, other, value)] += 1
        self.assertGreater(min(seen.values()), 50)

    def test_changed_evidence(self):
        seen = {True: 0, False: 0}
        for one, other in itertools.islice(small_pairs(), 0, None, 8):
            for value in changed_values(evidence(one, other)):
                if all(len(pair) == 2 and is_node(pair[0]) and isinstance(pair[1], int) for pair in value):
                    seen[self.check(one, other, value)] += 1
                else:
                    self.assertIs(shows_common(one, other, value), False)
        self.assertGreater(min(seen.values()), 100)

    def test_changed_evidence_of_long_sequences(self):
        for one, other, common in itertools.islice(large_pairs(), 0, None, 5):
            found = evidence(one, other)
            self.assertIs(shows_common(one, other, ()), common == 0)
            for value in (found + found[:1], found[1:], found[:-1], found + found) if common else ():
                self.assertIs(shows_common(one, other, value), False)
            for at, (node, times) in enumerate(found):
                ahead, behind = found[:at], found[at + 1:]
                self.assertIs(shows_common(one, other, ahead + behind), False)
                self.assertIs(shows_common(one, other, ahead + ((node, times + 1),) + behind), False)
                self.assertIs(shows_common(one, other, ahead + ((node, 10 ** 5000),) + behind), False)
                self.assertIs(shows_common(one, other, ahead + found[at:at + 1] + found[at:]), False)
                if times > 1:
                    self.assertIs(shows_common(one, other, ahead + ((node, 1), (node, times - 1)) + behind), True)
                    self.assertIs(shows_common(one, other, ahead + ((node, times - 1),) + behind), False)
                elif isinstance(node, tuple) and node[0] == "block":
                    inner = tuple((node, 1) for node in node[1])
                    self.assertIs(shows_common(one, other, ahead + inner + behind), True)
                for like in itertools.islice(others_of_this_size(node), 3):
                    self.assertIs(shows_common(one, other, ahead + ((like, times),) + behind), False)

    def test_any_number_of_pairs(self):
        for one, other in itertools.islice(small_pairs(), 0, None, 5):
            some, others = reference.sequence_of(one), reference.sequence_of(other)
            single = tuple((element, 1) for element in some[:reference.common(some, others)])
            self.assertIs(shows_common(one, other, single), True)
            self.assertIs(shows_common(one, other, single + ((1, 1),)), False)
            self.assertIs(shows_common(one, other, single[:-1]), single == ())
        large = ("run", ("block", (1, 2)), 10 ** 18)
        short = tree_of(((1, 1), (2, 1)) * 150)
        self.assertIs(shows_common(large, short, ((1, 1), (2, 1)) * 150), True)
        self.assertIs(shows_common(large, short, ((("block", (1, 2)), 1),) * 150), True)
        self.assertIs(shows_common(large, short, ((("block", (1, 2)), 1),) * 151), False)
        self.assertIs(shows_common(large, large, ((1, 1), (2, 1)) * 20000), False)
        self.assertIs(shows_common(large, large, ((1, 1), (2, 1)) * 999 + ((("block", (1, 2)), 10 ** 18 - 999),)), True)
        self.assertIs(shows_common(("run", 5, 9999), ("run", 5, 10 ** 60), ((5, 1),) * 9999), True)

    def test_runs(self):
        run = ("run", 5, 4)
        for value, right in (
            (((run, 1),), True), (((5, 4),), True), (((5, 1), (5, 3)), True), (((5, 1),) * 4, True),
            (((5, 5),), False), (((5, 3),), False), (((run, 2),), False), (((("run", 5, 2), 2),), False),
            (((("run", 5, 2), 1), (5, 2)), False), (((5, 1), (("run", 5, 3), 1)), False), (((5, 4), (5, 1)), False),
        ):
            self.assertIs(shows_common(run, run, value), right)
        # A run of the other tree stands there only so many times as it lies in both.
        self.assertIs(shows_common(run, ("run", 5, 3), ((5, 3),)), True)
        self.assertIs(shows_common(run, ("run", 5, 3), ((("run", 5, 3), 1),)), False)
        self.assertIs(shows_common(run, ("run", 5, 3), ((run, 1),)), False)
        self.assertIs(shows_common(run, 5, ((5, 1),)), True)

    def test_none(self):
        for one, other in ((None, None), (None, 5), (5, None), (5, 6), (("block", (1, 2)), 2)):
            for value, right in (((), True), (((5, 1),), False), ([], False), (None, False), (((None, 1),), False)):
                self.assertIs(shows_common(one, other, value), right)
        for one, other in ((5, 5), (5, ("run", 5, 2)), (("block", (1, 2)), 1)):
            self.assertIs(shows_common(one, other, ()), False)


class AnyValueTest(unittest.TestCase):
    tree = tree_of(((1, 1), (2, 3), (0, 1), (1, 1), (3, 1)))

    def test_values_of_any_kind(self):
        for value in (*reference.STRANGE_VALUES, *reference.deep_values()):
            for one, other in ((self.tree, self.tree), (5, 5), (("run", 5, 2), ("run", 5, 3)), (None, 5)):
                for some in (value, (value,), ((value, 1),), ((5, value),), ((value, value),), ([5, 1], value),
                             ((5, 1), value), ((1, 1, value),), [(value, 1)]):
                    self.assertIs(shows_common(one, other, some), False)

    def test_no_pairs_of_a_node_and_an_integer(self):
        for value in (
            [(5, 1)], ([5, 1],), ((5,),), ((5, 1, 1),), (5, 1), ((5, 1), 5), ((5, True),), ((5, 0),), ((5, -1),), ((5, "1"),),
            ((5, None),), (("5", 1),), ((5, (1,)),), ((5, [1]),), (((5,), 1),), (([5], 1),), {(5, 1): 1}, "51", ((),), (((),),),
            ((5, {}),), (({}, 1),), ({5: 1},), (((5, 1),),), ((None, 1),), ((5, 10 ** 5000),), ((10 ** 5000, 1),),
        ):
            before = copy.deepcopy(value)
            self.assertIs(shows_common(5, 5, value), False)
            self.assertEqual(value, before)
        self.assertIs(shows_common(5, 5, ((5, 1),)), True)

    def spoiled(self, node):
        """A node with a boolean, a list or another value in the place of one of its values."""
        if isinstance(node, tuple):
            yield list(node)
            for at, item in enumerate(node):
                for other in self.spoiled(item):
                    yield node[:at] + (other,) + node[at + 1:]
        elif isinstance(node, int):
            yield from (BOOLEANS.get(node, None), str(node), [node], (node,), None)

    def test_booleans_and_lists_within_nodes(self):
        for value in (((self.tree, 1),), evidence(self.tree, self.tree),
                      tuple((element, 1) for element in reference.sequence_of(self.tree))):
            self.assertIs(shows_common(self.tree, self.tree, value), True)
            for at, (node, times) in enumerate(value):
                for other in self.spoiled(node):
                    some = value[:at] + ((other, times),) + value[at + 1:]
                    self.assertIs(shows_common(self.tree, self.tree, some), False, some)
        for tree, value in ((1, True), (0, False), (("run", 1, 2), ("run", True, 2)), (("block", (0, 1)), ("block", (0, True)))):
            self.assertIs(shows_common(tree, tree, ((tree, 1),)), True)
            self.assertIs(shows_common(tree, tree, ((value, 1),)), False)

    def test_large_nodes_that_share_their_parts(self):
        left, right = 1, 2
        for _ in range(29):
            left, right = ("block", (left, right)), ("block", (right, left))
        for tree in (self.tree, 1, node_from("((1 2) (2 1))"), ("run", ("block", (1, 2)), 10 ** 18)):
            self.assertIs(shows_common(tree, tree, ((left, 1),)), False)
            self.assertIs(shows_common(tree, tree, ((1, 1), (left, 2))), False)


class CallsTest(unittest.TestCase):
    def test_by_name(self):
        tree, other = tree_of(((1, 1), (2, 1), (1, 1), (2, 1))), tree_of(((1, 1), (2, 1), (3, 1)))
        self.assertEqual(
            [first_difference(other=other, one=tree), same_stretch(length=1, second=3, other=tree, first=1, one=tree),
             evidence(other=other, one=tree), shows_common(value=((1, 1), (2, 1)), other=other, one=tree)],
            [2, True, evidence(tree, other), True],
        )

    def test_arguments_stay_and_equal_calls_are_equal(self):
        tree, other = tree_of(((1, 3), (2, 1), (1, 1), (2, LARGE))), tree_of(((1, 2), (2, LARGE), (3, 1)))
        value = [[(1, 2)], {"a": [(1, 2)]}]
        before = copy.deepcopy((tree, other, value))
        for call in (lambda: first_difference(tree, other), lambda: same_stretch(tree, 1, other, 0, 3),
                     lambda: evidence(tree, other), lambda: shows_common(tree, other, evidence(tree, other)),
                     lambda: shows_common(tree, other, value), lambda: shows_common(tree, other, (value,)),
                     lambda: shows_common(tree, other, (tuple(value),))):
            self.assertEqual(call(), call())
        self.assertEqual((tree, other, value), before)

    def test_kinds_of_results(self):
        tree, other = tree_of(((1, 3), (2, 1))), tree_of(((1, 2), (2, LARGE)))
        self.assertEqual([type(first_difference(tree, other)), type(first_difference(None, 1))], [int, int])
        self.assertIs(type(evidence(tree, tree)), tuple)


if __name__ == "__main__":
    unittest.main()
