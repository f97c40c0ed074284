"""Section 4: contents, edits and parts, of rows as such and through the functions that edit and compare."""

import random
import unittest

import reference
from localblocks.comparing import evidence, first_difference, same_stretch, shows_common
from localblocks.editing import changed, joined, part, spliced
from localblocks.nodes import size_of
from localblocks.trees import rows_of, run_count, runs_of, tree_of


def middles(one, other):
    """How many nodes of two rows are left between an equal beginning and an equal end."""
    left = 0
    while left < min(len(one), len(other)) and one[left] == other[left]:
        left += 1
    right = 0
    while right < min(len(one), len(other)) - left and one[-1 - right] == other[-1 - right]:
        right += 1
    return max(len(one), len(other)) - left - right


def row_pairs(one, other):
    """The rows of both with the same number, the empty one where there is none."""
    rows, others = rows_of(one), rows_of(other)
    for number in range(max(len(rows), len(others))):
        yield (rows + ((),) * len(others))[number], (others + ((),) * len(rows))[number]


def some_sequences(seed, times):
    chance = random.Random(seed)
    for time in range(times):
        alphabet = reference.ALPHABETS[time % len(reference.ALPHABETS)]
        counts = ((1,), (1, 1, 2, 3))[time % 2]
        runs = reference.some_runs(chance, chance.choice((5, 40, 290)), alphabet, counts)
        if time % 4 == 3:
            runs = reference.as_runs(reference.as_sequence(runs[:7]) * 40)
        yield chance, alphabet, reference.as_sequence(runs)


class ContentsTest(unittest.TestCase):
    def test_equal_trees_only_of_equal_sequences(self):
        for chance, alphabet, sequence in some_sequences(20, 60):
            at = chance.randrange(len(sequence))
            other = sequence[:at] + [chance.choice(alphabet)] + sequence[at + 1:]
            one, two = tree_of(reference.as_runs(sequence)), tree_of(reference.as_runs(other))
            self.assertEqual(one == two, sequence == other)

    def test_however_a_sequence_was_made(self):
        for chance, alphabet, sequence in some_sequences(25, 30):
            right = tree_of(reference.as_runs(sequence))
            size = len(sequence)
            one, two = sorted(chance.choices(range(size + 1), k=2))
            pieces = [part(right, 0, one), part(right, one, two), part(right, two, size)]
            self.assertEqual(joined(joined(pieces[0], pieces[1]), pieces[2]), right)
            self.assertEqual(joined(pieces[0], joined(pieces[1], pieces[2])), right)
            self.assertEqual(spliced(joined(pieces[0], pieces[2]), one, one, runs_of(pieces[1])), right)
            self.assertEqual(spliced(spliced(right, one, two, ()), one, one, runs_of(pieces[1])), right)
            grown = None
            for begin in range(0, size, 37):
                grown = joined(grown, tree_of(reference.as_runs(sequence[begin:begin + 37])))
            self.assertEqual(grown, right)
            if run_count(right) < 299:
                at = chance.randrange(size)
                edited = spliced(right, at, at + 1, ((54321, 3),))
                self.assertNotEqual(edited, right)
                self.assertEqual(spliced(edited, at, at + 3, ((sequence[at], 1),)), right)


class EditsTest(unittest.TestCase):
    def test_one_element(self):
        for chance, alphabet, sequence in some_sequences(21, 120):
            at = chance.randrange(len(sequence))
            for other in (sequence[:at] + sequence[at + 1:], sequence[:at] + [chance.choice(alphabet)] + sequence[at:],
                          sequence[:at] + [chance.choice(alphabet)] + sequence[at + 1:]):
                for row, changed in row_pairs(reference.as_runs(sequence), reference.as_runs(other)):
                    self.assertLessEqual(middles(row, changed), 26)

    def test_changes_of_one_element(self):
        for chance, alphabet, sequence in some_sequences(26, 60):
            tree = tree_of(reference.as_runs(sequence))
            at = chance.choice((0, len(sequence) - 1, chance.randrange(len(sequence))))
            new = () if run_count(tree) > 297 else ((chance.choice(alphabet), 1),)
            for other in (spliced(tree, at, at + 1, new), spliced(tree, at, at, new), spliced(tree, at, at + 1, ())):
                for rows in (changed(tree, other), changed(other, tree)):
                    for _, _, many, others in rows:
                        self.assertLessEqual(max(many, others), 26)
                    for (_, _, many, others), (_, _, more, most) in zip(rows, rows[1:]):
                        self.assertLessEqual(2 * max(more, most), max(many, others) + 26)

    def test_from_row_to_row(self):
        for chance, alphabet, sequence in some_sequences(22, 120):
            start, stop = sorted(chance.choices(range(len(sequence) + 1), k=2))
            new = [chance.choice(alphabet) for _ in range(chance.randint(0, 20))]
            other = sequence[:start] + new + sequence[stop:]
            rows = list(row_pairs(reference.as_runs(sequence), reference.as_runs(other)[:300]))
            for (one, two), (three, four) in zip(rows, rows[1:]):
                if len(one) > 1 and len(two) > 1:
                    self.assertLessEqual(2 * middles(three, four), middles(one, two) + 26)


class PartsTest(unittest.TestCase):
    def strange(self, rows, *wholes):
        for number, row in enumerate(rows):
            known = [node for whole in wholes for node in whole[number:number + 1]]
            known = {node for row in known for node in row}
            self.assertLessEqual(len({node for node in row if node not in known}), 26)

    def test_part_of_a_sequence(self):
        for chance, _, sequence in some_sequences(23, 120):
            start, stop = sorted(chance.choices(range(len(sequence) + 1), k=2))
            tree = tree_of(reference.as_runs(sequence))
            self.strange(rows_of(runs_of(part(tree, start, stop))), rows_of(runs_of(tree)))

    def test_joined_sequences(self):
        for chance, alphabet, sequence in some_sequences(24, 80):
            at = chance.randrange(len(sequence) + 1)
            one, other = sequence[:at], [chance.choice(alphabet) for _ in range(40)]
            if len(reference.as_runs(one + other)) <= 300:
                one, other = tree_of(reference.as_runs(one)), tree_of(reference.as_runs(other))
                whole = joined(one, other)
                self.strange(rows_of(runs_of(whole)), rows_of(runs_of(one)), rows_of(runs_of(other)))


class ComparingTest(unittest.TestCase):
    def test_exact_for_all_trees(self):
        for chance, alphabet, sequence in some_sequences(27, 60):
            start, stop = sorted(chance.choices(range(len(sequence) + 1), k=2))
            other = sequence[:start] + [chance.choice(alphabet) for _ in range(chance.randint(0, 3))] + sequence[stop:]
            other = reference.as_sequence(reference.as_runs(other)[:300])
            common = reference.common(sequence, other)
            one, two = tree_of(reference.as_runs(sequence)), tree_of(reference.as_runs(other))
            self.assertEqual(first_difference(one, two), None if sequence == other else common)
            found = evidence(one, two)
            rows = max(len(rows_of(runs_of(one))), len(rows_of(runs_of(two))))
            self.assertLessEqual(len(found), 8 * rows)
            self.assertEqual(sum(size_of(node) * times for node, times in found), common)
            self.assertTrue(shows_common(one, two, found))
            behind = reference.common(sequence[::-1], other[::-1])
            self.assertTrue(same_stretch(one, len(sequence) - behind, two, len(other) - behind, behind))


class RepeatedTest(unittest.TestCase):
    """That the trees of section 12 that the tests make are right."""

    def test_examples(self):
        self.assertEqual(
            [reference.repeated(((5, 2),), 10 ** 18), reference.repeated(((1, 1), (2, 1)), 2),
             run_count(reference.repeated(((1, 1), (2, 1)), 10 ** 18))],
            [("run", 5, 2 * 10 ** 18), ("run", ("block", (1, 2)), 2), 2 * 10 ** 18],
        )

    def test_as_the_definition_says(self):
        for runs, _ in reference.long_sequences():
            for times in (71, 72, 100):
                self.assertEqual(reference.repeated(runs, times), reference.tree(reference.melted(runs * times)))


if __name__ == "__main__":
    unittest.main()
