"""A second reading of section 3, as slow and as literal as can be, to compare with.

It works on texts and lists and shares no code with the package.
"""

import itertools
import random


def text(node):
    if isinstance(node, int):
        return "%d" % node
    if node[0] == "run":
        return "%s^%d" % (text(node[1]), node[2])
    return "(%s)" % " ".join(map(text, node[1]))


CODE = {**{str(digit): digit for digit in range(10)}, " ": 10, "(": 11, ")": 12, "^": 13}


def first_round(row):
    out = []
    for j, node in enumerate(row):
        here = text(node)
        if j == 0:
            out.append(CODE[here[0]])
            continue
        before = text(row[j - 1])
        for i, (a, b) in enumerate(itertools.zip_longest(before, here)):
            if a != b:
                out.append(16 * i + (14 if b is None else CODE[b]))
                break
    return tuple(out)


def later_round(some):
    binary = [bin(mark)[2:][::-1] for mark in some]
    width = max([len(digits) for digits in binary], default=0)
    binary = [digits.ljust(width, "0") for digits in binary]
    out = []
    for j, digits in enumerate(binary):
        if j == 0:
            out.append(int(digits[0]))
            continue
        i = next(k for k in range(width) if binary[j - 1][k] != digits[k])
        out.append(2 * i + int(digits[i]))
    return tuple(out)


def all_rounds(row):
    return later_round(later_round(later_round(later_round(first_round(row)))))


def peak_places(row):
    n = len(row)
    some = all_rounds(row)
    return tuple(
        j for j in range(n) if 2 <= j <= n - 2 and some[j] > some[j - 1] and some[j] > some[j + 1]
    )


def stretches(row):
    found = [[]]
    tops = peak_places(row)
    for j, node in enumerate(row):
        if j in tops:
            found.append([])
        found[-1].append(node)
    return found


def pieces(row):
    out = []
    for stretch in stretches(row):
        while len(stretch) > 3:
            out.append(tuple(stretch[:2]))
            stretch = stretch[2:]
        out.append(tuple(stretch))
    return out


def with_runs(nodes):
    out = []
    for node, same in itertools.groupby(nodes):
        count = len(list(same))
        out.append(node if count == 1 else ("run", node, count))
    return tuple(out)


def all_rows(runs):
    if runs == ():
        return ()
    rows = [tuple(e if c == 1 else ("run", e, c) for e, c in runs)]
    while len(rows[-1]) != 1:
        rows.append(with_runs([("block", piece) for piece in pieces(rows[-1])]))
    return tuple(rows)


def tree(runs):
    return None if runs == () else all_rows(runs)[-1][0]


def as_runs(sequence):
    return tuple((e, len(list(same))) for e, same in itertools.groupby(sequence))


def as_sequence(runs):
    return [e for e, c in runs for _ in range(c)]


def some_runs(chance, pairs, alphabet=(0, 1, 2), counts=(1, 1, 1, 2)):
    """Runs of so many pairs by a chance that the test has seeded."""
    runs = []
    while len(runs) < pairs:
        element = chance.choice(alphabet)
        if not runs or runs[-1][0] != element:
            runs.append((element, chance.choice(counts)))
    return tuple(runs)


ALPHABETS = (
    (0, 1),
    (1, 2, 3),
    (1, 11, 111, 1111, 12, 10),
    (0, 10 ** 9, 10 ** 9 - 1, 100000000, 5),
    tuple(range(500)),
)


def many_runs(seed, times, most=300):
    """Runs of many kinds and lengths, the same ones for the same seed."""
    chance = random.Random(seed)
    for time in range(times):
        counts = ((1,), (1, 1, 2, 3), (1, 2, 20, 21, 10 ** 60))[time % 3]
        yield some_runs(chance, chance.randint(0, most), ALPHABETS[time % len(ALPHABETS)], counts)


# Values of every kind that are neither nodes nor runs nor texts of nodes.
STRANGE_VALUES = (
    True, False, -1, 10 ** 9 + 1, -(10 ** 60), 10 ** 5000, "", "x", "run", "block",
    [], [5], [1, 2], {}, {"run": 5}, {5: "block"}, ("run",), ("block",), ("run", 5), ("block", 5),
    ("block", ()), ("block", (1,)), ("block", (1, 2, 3, 4)), ("block", (1, 1)), ("block", (1, 2, 2)),
    ("block", [1, 2]), ["block", (1, 2)], ("block", (1, 2), 2), ("block", "12"), ("block", {1: 2, 3: 4}),
    ("block", (True, 2)), ("block", (1, False)), ("block", (1, None)), ("block", (1, "2")), ("block", None),
    ("block", (("run", 1, 2), 1)), ("block", (2, 1, ("run", 1, 2))), ("block", (("run", 1, 2), ("run", 1, 3))),
    ("block", (("block", (1, 2)), 3)), ("block", (3, ("block", (1, 2)))), ("block", (1, 2, ("block", (1, 2)))),
    ("block", (("block", (1, 2)), ("run", ("block", (1, 2)), 2))), ("block", (10 ** 9 + 1, 2)), ("block", (-1, 2)),
    ("run", 5, 1), ("run", 5, 0), ("run", 5, -2), ("run", 5, 10 ** 60 + 1), ("run", 5, True), ("run", 5, None),
    ("run", 5, "2"), ("run", True, 2), ("run", None, 2), ("run", (5,), 2), ("run", 10 ** 9 + 1, 2), ["run", 5, 2],
    ("run", ("run", 5, 2), 2), ("run", ("block", (1, 1)), 2), ("run", ("block", (1,)), 2), ("run", 5, 2, 2),
    ("run", ["block", (1, 2)], 2), ("run", ("block", [1, 2]), 2), ("block", (("block", (1, 2)), ("block", (1, 2)))),
    ("block", (("block", (1, 2)), ["block", (2, 1)])), ("Run", 5, 2), ("Block", (1, 2)), ("run ", 5, 2),
    (True, 5, 2), ((), 5, 2), ({}, (1, 2)), ([], (1, 2)), (None, (1, 2)), ("run", {}, 2), ("run", 5, {}),
)


def deep_values():
    """Values that are nested 60 deep: of one kind throughout, or shared over and over."""
    as_list, as_tuple, as_dict, as_block, as_run = [], (), {}, (1, 1), True
    for depth in range(59):
        as_list = [as_list]
        as_tuple = (as_tuple, as_tuple)
        as_dict = {depth: as_dict}
        as_run = ("run", as_run, 2)
    for _ in range(29):
        as_block = ("block", (as_block, as_block))
    return [as_list, as_tuple, as_dict, as_block, as_run]
