"""Section 4: contents, edits and parts, of rows as such and through the functions that edit and compare."""

import random
import unittest

import reference
from localblocks.comparing import evidence, first_difference, same_stretch, shows_common
from localblocks.desk import Desk
from localblocks.editing import changed, joined, part, spliced
from localblocks.nodes import level_of, node_from, size_of, text_of
from localblocks.reading import elements_from, walk
from localblocks.repeating import repeated
from localblocks.store import Store
from localblocks.texts import read_runs, read_tree, show_runs, show_tree
from localblocks.trees import rows_of, run_count, runs_of, tree_of


def middles(one, other):
    """How many nodes of two rows are left between an equal beginning and an equal end."""
    left = 0
    while left < min(len(one), len(other)) and one[left] == other[left]:
        left += 1
    right = 0
    while right < min(len(one), len(other)) - left and one[-1 - right] == other[-1 - right]:
        right += 1
    return max(len(one), len(other)) - left - right


def row_pairs(one, other):
    """The rows of both with the same number, the empty one where there is none."""
    rows, others = rows_of(one), rows_of(other)
    for number in range(max(len(rows), len(others))):
        yield (rows + ((),) * len(others))[number], (others + ((),) * len(rows))[number]


def some_sequences(seed, times):
    chance = random.Random(seed)
    for time in range(times):
        alphabet = reference.ALPHABETS[time % len(reference.ALPHABETS)]
        counts = ((1,), (1, 1, 2, 3))[time % 2]
        runs = reference.some_runs(chance, chance.choice((5, 40, 290)), alphabet, counts)
        if time % 4 == 3:
            runs = reference.as_runs(reference.as_sequence(runs[:7]) * 40)
        yield chance, alphabet, reference.as_sequence(runs)


class ContentsTest(unittest.TestCase):
    def test_equal_trees_only_of_equal_sequences(self):
        for chance, alphabet, sequence in some_sequences(20, 60):
            at = chance.randrange(len(sequence))
            other = sequence[:at] + [chance.choice(alphabet)] + sequence[at + 1:]
            one, two = tree_of(reference.as_runs(sequence)), tree_of(reference.as_runs(other))
            self.assertEqual(one == two, sequence == other)

    def test_however_a_sequence_was_made(self):
        for chance, alphabet, sequence in some_sequences(25, 30):
            right = tree_of(reference.as_runs(sequence))
            size = len(sequence)
            one, two = sorted(chance.choices(range(size + 1), k=2))
            pieces = [part(right, 0, one), part(right, one, two), part(right, two, size)]
            self.assertEqual(joined(joined(pieces[0], pieces[1]), pieces[2]), right)
            self.assertEqual(joined(pieces[0], joined(pieces[1], pieces[2])), right)
            self.assertEqual(spliced(joined(pieces[0], pieces[2]), one, one, runs_of(pieces[1])), right)
            self.assertEqual(spliced(spliced(right, one, two, ()), one, one, runs_of(pieces[1])), right)
            grown = None
            for begin in range(0, size, 37):
                grown = joined(grown, tree_of(reference.as_runs(sequence[begin:begin + 37])))
            self.assertEqual(grown, right)
            if run_count(right) < 299:
                at = chance.randrange(size)
                edited = spliced(right, at, at + 1, ((54321, 3),))
                self.assertNotEqual(edited, right)
                self.assertEqual(spliced(edited, at, at + 3, ((sequence[at], 1),)), right)


class EditsTest(unittest.TestCase):
    def test_one_element(self):
        for chance, alphabet, sequence in some_sequences(21, 120):
            at = chance.randrange(len(sequence))
            for other in (sequence[:at] + sequence[at + 1:], sequence[:at] + [chance.choice(alphabet)] + sequence[at:],
                          sequence[:at] + [chance.choice(alphabet)] + sequence[at + 1:]):
                for row, changed in row_pairs(reference.as_runs(sequence), reference.as_runs(other)):
                    self.assertLessEqual(middles(row, changed), 26)

    def test_changes_of_one_element(self):
        for chance, alphabet, sequence in some_sequences(26, 60):
            tree = tree_of(reference.as_runs(sequence))
            at = chance.choice((0, len(sequence) - 1, chance.randrange(len(sequence))))
            new = () if run_count(tree) > 297 else ((chance.choice(alphabet), 1),)
            for other in (spliced(tree, at, at + 1, new), spliced(tree, at, at, new), spliced(tree, at, at + 1, ())):
                for rows in (changed(tree, other), changed(other, tree)):
                    for _, _, many, others in rows:
                        self.assertLessEqual(max(many, others), 26)
                    for (_, _, many, others), (_, _, more, most) in zip(rows, rows[1:]):
                        self.assertLessEqual(2 * max(more, most), max(many, others) + 26)

    def test_from_row_to_row(self):
        for chance, alphabet, sequence in some_sequences(22, 120):
            start, stop = sorted(chance.choices(range(len(sequence) + 1), k=2))
            new = [chance.choice(alphabet) for _ in range(chance.randint(0, 20))]
            other = sequence[:start] + new + sequence[stop:]
            rows = list(row_pairs(reference.as_runs(sequence), reference.as_runs(other)[:300]))
            for (one, two), (three, four) in zip(rows, rows[1:]):
                if len(one) > 1 and len(two) > 1:
                    self.assertLessEqual(2 * middles(three, four), middles(one, two) + 26)


class PartsTest(unittest.TestCase):
    def strange(self, rows, *wholes):
        for number, row in enumerate(rows):
            known = [node for whole in wholes for node in whole[number:number + 1]]
            known = {node for row in known for node in row}
            self.assertLessEqual(len({node for node in row if node not in known}), 26)

    def test_part_of_a_sequence(self):
        for chance, _, sequence in some_sequences(23, 120):
            start, stop = sorted(chance.choices(range(len(sequence) + 1), k=2))
            tree = tree_of(reference.as_runs(sequence))
            self.strange(rows_of(runs_of(part(tree, start, stop))), rows_of(runs_of(tree)))

    def test_joined_sequences(self):
        for chance, alphabet, sequence in some_sequences(24, 80):
            at = chance.randrange(len(sequence) + 1)
            one, other = sequence[:at], [chance.choice(alphabet) for _ in range(40)]
            if len(reference.as_runs(one + other)) <= 300:
                one, other = tree_of(reference.as_runs(one)), tree_of(reference.as_runs(other))
                whole = joined(one, other)
                self.strange(rows_of(runs_of(whole)), rows_of(runs_of(one)), rows_of(runs_of(other)))


class ComparingTest(unittest.TestCase):
    def test_exact_for_all_trees(self):
        for chance, alphabet, sequence in some_sequences(27, 60):
            start, stop = sorted(chance.choices(range(len(sequence) + 1), k=2))
            other = sequence[:start] + [chance.choice(alphabet) for _ in range(chance.randint(0, 3))] + sequence[stop:]
            other = reference.as_sequence(reference.as_runs(other)[:300])
            common = reference.common(sequence, other)
            one, two = tree_of(reference.as_runs(sequence)), tree_of(reference.as_runs(other))
            self.assertEqual(first_difference(one, two), None if sequence == other else common)
            found = evidence(one, two)
            rows = max(len(rows_of(runs_of(one))), len(rows_of(runs_of(two))))
            self.assertLessEqual(len(found), 8 * rows)
            self.assertEqual(sum(size_of(node) * times for node, times in found), common)
            self.assertTrue(shows_common(one, two, found))
            behind = reference.common(sequence[::-1], other[::-1])
            self.assertTrue(same_stretch(one, len(sequence) - behind, two, len(other) - behind, behind))


class RepeatedTest(unittest.TestCase):
    """That the trees of section 12 that the tests make are right."""

    def test_examples(self):
        self.assertEqual(
            [reference.repeated(((5, 2),), 10 ** 18), reference.repeated(((1, 1), (2, 1)), 2),
             run_count(reference.repeated(((1, 1), (2, 1)), 10 ** 18))],
            [("run", 5, 2 * 10 ** 18), ("run", ("block", (1, 2)), 2), 2 * 10 ** 18],
        )

    def test_as_the_definition_says(self):
        for runs, _ in reference.long_sequences():
            for times in (71, 72, 100):
                self.assertEqual(reference.repeated(runs, times), reference.tree(reference.melted(runs * times)))


def row_nodes(tree):
    """The sets of the nodes of each row of a tree of any number of runs: what stands within blocks, and the tree."""
    rows = {level_of(tree): {tree}}
    for node in walk(tree):
        if isinstance(node, tuple) and node[0] == "block":
            rows.setdefault(level_of(node) - 1, set()).update(node[1])
    return rows


class WholeProgramTest(unittest.TestCase):
    def all_ways(self, runs):
        """The trees of one sequence, made in all ways that the program has."""
        right, size = reference.tree(runs), sum(count for _, count in runs)
        at, text = size // 3, show_runs(runs)
        yield tree_of(runs)
        yield rows_of(runs)[-1][0]
        yield repeated(runs, 1)
        yield tree_of(runs_of(right))
        yield tree_of(read_runs(text))
        yield read_tree(show_tree(right))
        yield node_from(text_of(right))
        yield joined(part(right, 0, at), part(right, at, size))
        yield spliced(None, 0, 0, runs)
        yield spliced(right, at, size, runs_of(part(right, at, size)))
        store = Store()
        store.put("a", runs)
        store.part("a", 0, at, to="b")
        store.part("a", at, size, to="c")
        store.concat("b", "c", to="d")
        store.splice("b", 0, at, runs, to="e")
        store.splice("c", 0, size - at, (), to="f")
        store.splice("f", 0, 0, runs, to="f")
        store.drop("a")
        store.undo()
        for name in "adef":
            yield store.tree(name)
            yield store.copy().tree(name)
            yield Store.read(store.written()).tree(name)
        # A line has numbers of at most 40 digits.
        if size >= 10 ** 40:
            return
        desk = Desk()
        for line in (f"put a {text}", f"part a 0 {at} b", f"part a {at} {size} c", "join b c d", f"splice d 0 {at} d -",
                     f"splice c 0 0 e {show_runs(runs_of(part(right, 0, at)))}", "drop d", "undo"):
            self.assertEqual(desk.say(line), "ok")
        for name in "ae":
            yield read_tree(desk.say(f"show {name}"))

    def test_equal_trees_however_they_were_made(self):
        for time, runs in enumerate(reference.many_runs(120, 24, 290)):
            for tree in self.all_ways(runs) if runs else ():
                self.assertEqual(tree, reference.tree(runs))

    def test_repeated_in_all_ways(self):
        for _, _, sequence in some_sequences(121, 40):
            runs = reference.as_runs(sequence)[:30]
            store = Store()
            store.put("a", runs)
            for times in (2, 5, 9):
                whole = reference.melted(runs * times)
                store.repeat("a", times, to="b")
                store.part("b", 0, 0, to="c")
                for _ in range(times):
                    store.concat("c", "a", to="c")
                desk = Desk()
                answers = [desk.say(f"put a {show_runs(runs)}"), desk.say(f"repeat a {times} b"), desk.say("show b")]
                trees = [tree_of(whole), repeated(runs, times), store.tree("b"), store.tree("c"), read_tree(answers[-1])]
                for tree in trees:
                    self.assertEqual(tree, reference.tree(whole))

    def test_edits_of_versions(self):
        for chance, alphabet, sequence in some_sequences(122, 40):
            store = Store()
            store.put("a", reference.as_runs(sequence))
            for _ in range(6):
                at = chance.randrange(len(sequence))
                new = () if run_count(store.tree("a")) > 297 else ((chance.choice(alphabet), 1),)
                stop = at if new and chance.random() < 0.5 else at + 1
                store.splice("a", at, stop, new, to="b")
                rows = changed(store.tree("a"), store.tree("b"))
                self.assertLessEqual(max(max(many, others) for _, _, many, others in rows), 26)
                store.undo()

    def test_parts_of_what_is_repeated(self):
        for chance, alphabet, sequence in some_sequences(123, 40):
            runs = reference.as_runs(sequence)[:40]
            times = 290 // len(runs)
            tree, size = repeated(runs, times), sum(count for _, count in runs) * times
            start, stop = sorted(chance.choices(range(size + 1), k=2))
            for pieces, whole in (((tree,), part(tree, start, stop)), ((part(tree, 0, start), part(tree, start, size)), tree)):
                known = [row_nodes(piece) for piece in pieces if piece is not None]
                for level, row in row_nodes(whole).items() if whole is not None else ():
                    new = [node for node in row if not any(node in rows.get(level, ()) for rows in known)]
                    self.assertLessEqual(len(new), 26)

    def test_joined_far_too_long(self):
        for runs, times in reference.long_sequences():
            for one, other in ((times // 2, times - times // 2), (1, times - 1), (times - 2, 2), (700, 900)):
                known = row_nodes(repeated(runs, one)), row_nodes(repeated(runs, other))
                for level, row in row_nodes(repeated(runs, one + other)).items():
                    new = [node for node in row if not any(node in rows.get(level, ()) for rows in known)]
                    self.assertLessEqual(len(new), 26)

    def test_comparing_versions_far_too_long(self):
        for runs, times in reference.long_sequences():
            store, size = Store(), sum(count for _, count in runs)
            store.put("a", runs)
            store.repeat("a", times, to="b")
            store.repeat("a", times - 1, to="c")
            store.concat("a", "a", to="d")
            for one, other, at in (("b", "c", size * (times - 1)), ("b", "d", 2 * size), ("a", "c", size), ("d", "a", size)):
                self.assertEqual(store.difference(one, other), at)
                tree, against = store.tree(one), store.tree(other)
                found = evidence(tree, against)
                self.assertIs(shows_common(tree, against, found), True)
                self.assertLessEqual(len(found), 8 * max(level_of(tree) + 1, level_of(against) + 1))
            tree, twice = store.tree("b"), store.tree("d")
            self.assertIs(same_stretch(tree, size * (times - 2), twice, 0, 2 * size), True)
            self.assertEqual(elements_from(tree, 0, min(2 * size, 2000)), elements_from(twice, 0, min(2 * size, 2000)))


if __name__ == "__main__":
    unittest.main()
