import random
import unittest

import reference
from localblocks.marks import blocks, cuts, first_marks, made_runs, marks, next_marks, peaks


def some_rows():
    """Rows of no node to 2000 nodes, of levels 0 to 2."""
    yield ()
    chance = random.Random(6)
    for alphabet in reference.ALPHABETS:
        for length in (1, 2, 3, 4, 5, 6, 7, 30, 200):
            runs = reference.some_runs(chance, length, alphabet)
            yield tuple(e if c == 1 else ("run", e, c) for e, c in runs)
            yield from reference.all_rows(runs)[1:3]
    yield (1, 2) * 1000
    yield tuple(chance.randrange(0, 10 ** 9, 2) + at % 2 for at in range(2000))


class ExamplesTest(unittest.TestCase):
    def test_example(self):
        row = (("run", 5, 2), 7, 8, 7)
        self.assertEqual(
            [first_marks(row), next_marks((5, 7, 8, 7)), marks(row), peaks(row), cuts(row)],
            [(5, 7, 8, 7), (1, 3, 0, 1), (1, 3, 0, 1), (), (0, 2)],
        )

    def test_example_of_small_rows(self):
        self.assertEqual(
            [marks((1, 2, 1, 2)), peaks((1, 2, 1, 2)), blocks((1, 2, 3))],
            [(1, 0, 1, 0), (2,), (("block", (1, 2, 3)),)],
        )

    def test_example_of_making_runs(self):
        self.assertEqual(made_runs((4, 4, 4, 9, 4)), (("run", 4, 3), 9, 4))


class MarksTest(unittest.TestCase):
    def test_first_round(self):
        for row, some in (
            ((), ()),
            ((0,), (0,)),
            ((97,), (9,)),
            ((("block", (1, 2)),), (11,)),
            ((12, 1), (1, 30)),  # the text has ended
            ((1, 12), (1, 18)),
            ((1, ("run", 12, 2), 1, 12345, 123), (1, 18, 30, 18, 62)),
            ((("run", 1, 2), 13, ("run", 1, 3), 13), (1, 19, 29, 19)),
            ((10 ** 9, 10 ** 9 - 1, 0), (1, 9, 0)),
            ((("block", (1, 2)), ("block", (1, 2, 3)), ("block", (1, 2))), (11, 16 * 4 + 10, 16 * 4 + 12)),
            ((("block", (("run", 1, 2), 2)), ("block", (1, 2))), (11, 16 * 2 + 10)),
            ((("block", (1, 2)), ("block", (("run", 1, 2), 2))), (11, 16 * 2 + 13)),
            ((("block", (("block", (1, 2)), ("block", (2, 1)))),), (11,)),
            ((("run", ("block", (1, 2)), 2), ("block", (1, 3))), (11, 16 * 3 + 3)),
        ):
            self.assertEqual(first_marks(row), some)

    def test_one_later_round(self):
        for some, others in (
            ((), ()), ((0,), (0,)), ((1,), (1,)), ((6,), (0,)), ((0, 1), (0, 1)), ((1, 0), (1, 0)),
            ((4, 12, 8), (0, 7, 4)), ((0, 2 ** 5000), (0, 10001)), ((2 ** 5000 + 1, 1), (1, 10000)),
            ((2 ** 70, 2 ** 70 + 2 ** 69, 2 ** 69 - 1), (0, 139, 1)), ((3, 5, 3), (1, 2, 3)),
        ):
            self.assertEqual(next_marks(some), others)

    def test_later_rounds_of_many_marks(self):
        chance = random.Random(7)
        for length in range(60):
            some = [chance.randrange(2 ** chance.choice((1, 3, 8, 100)))]
            while len(some) < length:
                mark = chance.randrange(2 ** chance.choice((1, 3, 8, 100)))
                if mark != some[-1]:
                    some.append(mark)
            self.assertEqual(next_marks(tuple(some)), reference.later_round(tuple(some)))

    def test_four_later_rounds(self):
        for row in some_rows():
            some = first_marks(row)
            self.assertEqual(some, reference.first_round(row))
            for _ in range(4):
                some = next_marks(some)
            self.assertEqual(marks(row), some)
            self.assertEqual(marks(row), reference.all_rounds(row))

    def test_marks_are_small_and_neighbours_unlike(self):
        for row in some_rows():
            some = marks(row)
            self.assertEqual(len(some), len(row))
            self.assertTrue(all(0 <= mark <= 5 for mark in some))
            self.assertTrue(all(one != other for one, other in zip(some, some[1:])))


class CutsTest(unittest.TestCase):
    def test_few_nodes(self):
        self.assertEqual([first_marks(()), marks(()), peaks(())], [(), (), ()])
        self.assertEqual([marks((7,)), peaks((7,))], [(1,), ()])
        for row in ((1, 2), (2, 1), (0, 10 ** 9), (1, ("run", 2, 2))):
            self.assertEqual([peaks(row), cuts(row), blocks(row)], [(), (0,), (("block", row),)])
        for row in ((1, 2, 1), (1, 2, 3), (3, 2, 1), (1, 12, 1)):
            self.assertEqual([peaks(row), cuts(row), blocks(row)], [(), (0,), (("block", row),)])

    def test_a_peak_is_not_at_the_ends(self):
        seen = {1: 0, "last": 0, "but one": 0}
        for row in some_rows():
            some, tops = marks(row), peaks(row)
            for at in range(1, len(row)):
                higher = some[at] > some[at - 1] and (at + 1 == len(row) or some[at] > some[at + 1])
                if higher and at in (1, len(row) - 1):
                    self.assertNotIn(at, tops)
                    seen[1 if at == 1 else "last"] += 1
                elif higher:
                    self.assertIn(at, tops)
                    seen["but one"] += at == len(row) - 2
        self.assertTrue(all(seen.values()), seen)

    def test_as_the_definition_says(self):
        for row in some_rows():
            self.assertEqual(peaks(row), reference.peak_places(row))
            if len(row) >= 2:
                pieces = reference.pieces(row)
                begins = [sum(map(len, pieces[:at])) for at in range(len(pieces))]
                self.assertEqual(cuts(row), tuple(begins))
                self.assertEqual(blocks(row), tuple(("block", piece) for piece in pieces))

    def test_stretches_of_many_lengths_are_cut_into_pairs(self):
        seen = set()
        for row in some_rows():
            if len(row) < 2:
                continue
            tops, places = peaks(row), []
            for begin, end in zip((0, *tops), (*tops, len(row))):
                seen.add(end - begin)
                places += range(begin, end - 1, 2)
            self.assertEqual(cuts(row), tuple(places))
        self.assertTrue({2, 3, 4, 5} <= seen, seen)

    def test_a_long_stretch_is_cut_into_pairs(self):
        row = (11119, 1115, 13, 1111112, 111111116, 686194186, 1000, 500)
        self.assertEqual(marks(row), (1, 5, 3, 0, 1, 2, 4, 5))
        for length, begins in ((4, (0, 2)), (5, (0, 2)), (6, (0, 2, 4)), (7, (0, 2, 4)), (8, (0, 2, 4, 6))):
            self.assertEqual([peaks(row[:length]), cuts(row[:length])], [(), begins])
        self.assertEqual([len(block[1]) for block in blocks(row[:7])], [2, 2, 3])

    def test_rows_of_2000_nodes(self):
        row = (1, 2) * 1000
        self.assertEqual(peaks(row), tuple(range(2, 1999, 2)))
        self.assertEqual(blocks(row), (("block", (1, 2)),) * 1000)
        row = (2, 1) * 1000
        self.assertEqual(peaks(row), tuple(range(3, 1999, 2)))
        self.assertEqual(blocks(row), (("block", (2, 1, 2)), *(("block", (1, 2)),) * 997, ("block", (1, 2, 1))))

    def test_by_name(self):
        row = (1, 2, 1, 2)
        self.assertEqual(
            [first_marks(row=row), next_marks(some=row), marks(row=row), peaks(row=row), cuts(row=row),
             blocks(row=row), made_runs(nodes=row)],
            [first_marks(row), next_marks(row), marks(row), peaks(row), cuts(row), blocks(row), made_runs(row)],
        )


class MadeRunsTest(unittest.TestCase):
    def test_edges(self):
        block = ("block", (1, 2))
        for nodes, made in (
            ((), ()), ((1,), (1,)), ((1, 1), (("run", 1, 2),)), ((1, 2), (1, 2)), ((1, 2, 1), (1, 2, 1)),
            ((1, 2, 2), (1, ("run", 2, 2))), ((1, 1, 2, 2, 1), (("run", 1, 2), ("run", 2, 2), 1)),
            ((5,) * 2000, (("run", 5, 2000),)), ((1, 2) * 1000, (1, 2) * 1000),
            ((block,) * 3, (("run", block, 3),)), ((block, ("block", (2, 1)), block), (block, ("block", (2, 1)), block)),
        ):
            self.assertEqual(made_runs(nodes), made)

    def test_as_the_definition_says(self):
        chance = random.Random(8)
        for length in range(50):
            nodes = tuple(chance.choice((0, 1, 11)) for _ in range(length))
            self.assertEqual(made_runs(nodes), reference.with_runs(nodes))


class ResultsTest(unittest.TestCase):
    def test_results_are_tuples_of_integers(self):
        row = (1, 2, ("run", 1, 2), 12, 1)
        for made in (first_marks(row), next_marks((1, 2)), marks(row), peaks(row), cuts(row)):
            self.assertIs(type(made), tuple)
            self.assertTrue(all(type(item) is int for item in made))
        for made in (blocks(row), made_runs((1, 1))):
            self.assertIs(type(made), tuple)

    def test_equal_calls_return_equal_results(self):
        for row in list(some_rows())[:40]:
            for function in (first_marks, marks, peaks):
                self.assertEqual(function(row), function(tuple(list(row))))


if __name__ == "__main__":
    unittest.main()
