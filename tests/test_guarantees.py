"""Section 4: contents, edits and parts."""

import random
import unittest

import reference
from localblocks.trees import rows_of, tree_of


def middles(one, other):
    """How many nodes of two rows are left between an equal beginning and an equal end."""
    left = 0
    while left < min(len(one), len(other)) and one[left] == other[left]:
        left += 1
    right = 0
    while right < min(len(one), len(other)) - left and one[-1 - right] == other[-1 - right]:
        right += 1
    return max(len(one), len(other)) - left - right


def row_pairs(one, other):
    """The rows of both with the same number, the empty one where there is none."""
    rows, others = rows_of(one), rows_of(other)
    for number in range(max(len(rows), len(others))):
        yield (rows + ((),) * len(others))[number], (others + ((),) * len(rows))[number]


def some_sequences(seed, times):
    chance = random.Random(seed)
    for time in range(times):
        alphabet = reference.ALPHABETS[time % len(reference.ALPHABETS)]
        counts = ((1,), (1, 1, 2, 3))[time % 2]
        runs = reference.some_runs(chance, chance.choice((5, 40, 290)), alphabet, counts)
        if time % 4 == 3:
            runs = reference.as_runs(reference.as_sequence(runs[:7]) * 40)
        yield chance, alphabet, reference.as_sequence(runs)


class ContentsTest(unittest.TestCase):
    def test_equal_trees_only_of_equal_sequences(self):
        for chance, alphabet, sequence in some_sequences(20, 60):
            at = chance.randrange(len(sequence))
            other = sequence[:at] + [chance.choice(alphabet)] + sequence[at + 1:]
            one, two = tree_of(reference.as_runs(sequence)), tree_of(reference.as_runs(other))
            self.assertEqual(one == two, sequence == other)


class EditsTest(unittest.TestCase):
    def test_one_element(self):
        for chance, alphabet, sequence in some_sequences(21, 120):
            at = chance.randrange(len(sequence))
            for other in (sequence[:at] + sequence[at + 1:], sequence[:at] + [chance.choice(alphabet)] + sequence[at:],
                          sequence[:at] + [chance.choice(alphabet)] + sequence[at + 1:]):
                for row, changed in row_pairs(reference.as_runs(sequence), reference.as_runs(other)):
                    self.assertLessEqual(middles(row, changed), 26)

    def test_from_row_to_row(self):
        for chance, alphabet, sequence in some_sequences(22, 120):
            start, stop = sorted(chance.choices(range(len(sequence) + 1), k=2))
            new = [chance.choice(alphabet) for _ in range(chance.randint(0, 20))]
            other = sequence[:start] + new + sequence[stop:]
            rows = list(row_pairs(reference.as_runs(sequence), reference.as_runs(other)[:300]))
            for (one, two), (three, four) in zip(rows, rows[1:]):
                if len(one) > 1 and len(two) > 1:
                    self.assertLessEqual(2 * middles(three, four), middles(one, two) + 26)


class PartsTest(unittest.TestCase):
    def strange(self, part, *wholes):
        for number, row in enumerate(part):
            known = [node for whole in wholes for node in whole[number:number + 1]]
            known = {node for row in known for node in row}
            self.assertLessEqual(len({node for node in row if node not in known}), 26)

    def test_part_of_a_sequence(self):
        for chance, _, sequence in some_sequences(23, 120):
            start, stop = sorted(chance.choices(range(len(sequence) + 1), k=2))
            part = rows_of(reference.as_runs(sequence[start:stop]))
            self.strange(part, rows_of(reference.as_runs(sequence)))

    def test_joined_sequences(self):
        for chance, alphabet, sequence in some_sequences(24, 80):
            at = chance.randrange(len(sequence) + 1)
            one, other = sequence[:at], [chance.choice(alphabet) for _ in range(40)]
            joined = reference.as_runs(one + other)
            if len(joined) <= 300:
                self.strange(rows_of(joined), rows_of(reference.as_runs(one)), rows_of(reference.as_runs(other)))


if __name__ == "__main__":
    unittest.main()
