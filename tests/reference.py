"""A second reading of the sections 3 and 8 to 11, as slow and as literal as can be, to compare with.

It works on texts and lists and shares no code with the package.
"""

import functools
import itertools
import random


def text(node):
    if isinstance(node, int):
        return "%d" % node
    if node[0] == "run":
        return "%s^%d" % (text(node[1]), node[2])
    return "(%s)" % " ".join(map(text, node[1]))


CODE = {**{str(digit): digit for digit in range(10)}, " ": 10, "(": 11, ")": 12, "^": 13}


def first_round(row):
    out = []
    for j, node in enumerate(row):
        here = text(node)
        if j == 0:
            out.append(CODE[here[0]])
            continue
        before = text(row[j - 1])
        for i, (a, b) in enumerate(itertools.zip_longest(before, here)):
            if a != b:
                out.append(16 * i + (14 if b is None else CODE[b]))
                break
    return tuple(out)


def later_round(some):
    binary = [bin(mark)[2:][::-1] for mark in some]
    width = max([len(digits) for digits in binary], default=0)
    binary = [digits.ljust(width, "0") for digits in binary]
    out = []
    for j, digits in enumerate(binary):
        if j == 0:
            out.append(int(digits[0]))
            continue
        i = next(k for k in range(width) if binary[j - 1][k] != digits[k])
        out.append(2 * i + int(digits[i]))
    return tuple(out)


def all_rounds(row):
    return later_round(later_round(later_round(later_round(first_round(row)))))


def peak_places(row):
    n = len(row)
    some = all_rounds(row)
    return tuple(
        j for j in range(n) if 2 <= j <= n - 2 and some[j] > some[j - 1] and some[j] > some[j + 1]
    )


def stretches(row):
    found = [[]]
    tops = set(peak_places(row))
    for j, node in enumerate(row):
        if j in tops:
            found.append([])
        found[-1].append(node)
    return found


def pieces(row):
    out = []
    for stretch in stretches(row):
        while len(stretch) > 3:
            out.append(tuple(stretch[:2]))
            stretch = stretch[2:]
        out.append(tuple(stretch))
    return out


def with_runs(nodes):
    out = []
    for node, same in itertools.groupby(nodes):
        count = len(list(same))
        out.append(node if count == 1 else ("run", node, count))
    return tuple(out)


def all_rows(runs):
    if runs == ():
        return ()
    rows = [tuple(e if c == 1 else ("run", e, c) for e, c in runs)]
    while len(rows[-1]) != 1:
        rows.append(with_runs([("block", piece) for piece in pieces(rows[-1])]))
    return tuple(rows)


def tree(runs):
    return None if runs == () else all_rows(runs)[-1][0]


def as_runs(sequence):
    return tuple((e, len(list(same))) for e, same in itertools.groupby(sequence))


def as_sequence(runs):
    return [e for e, c in runs for _ in range(c)]


def sequence_of(tree):
    """The list of the elements of a tree."""
    if tree is None:
        return []
    if isinstance(tree, int):
        return [tree]
    if tree[0] == "run":
        return sequence_of(tree[1]) * tree[2]
    return [element for part in tree[1] for element in sequence_of(part)]


def parts(node):
    if isinstance(node, int):
        return []
    return [node[1]] * node[2] if node[0] == "run" else list(node[1])


def placed(node, begin=0):
    """All pairs (node, begin) of a node, its parts, their parts and so on; of a run each part at its place."""
    if node is None:
        return []
    found = [(node, begin)]
    for part in parts(node):
        found += placed(part, begin)
        begin += len(sequence_of(part))
    return found


def way(tree, index):
    return tuple((node, begin) for node, begin in placed(tree) if 0 <= index - begin < len(sequence_of(node)))


def standing(tree):
    """The set of all (index, text, times) of which the node with this text stands there so many times."""
    found = set()
    for node, begin in placed(tree):
        found.add((begin, text(node), 1))
        if not isinstance(node, int) and node[0] == "run":
            size = len(sequence_of(node[1]))
            for at in range(node[2]):
                for times in range(2, node[2] - at + 1):
                    found.add((begin + at * size, text(node[1]), times))
    return found


def common(some, others):
    """How many elements two lists have in common from the beginning."""
    for many, (one, other) in enumerate(zip(some, others)):
        if one != other:
            return many
    return min(len(some), len(others))


def is_evidence(one, other, pairs):
    """Whether a tuple of pairs (a node, an integer) shows what both trees have in common."""
    index = 0
    stands = standing(one) & standing(other)
    for node, times in pairs:
        if (index, text(node), times) not in stands:
            return False
        index += len(sequence_of(node)) * times
    return index == common(sequence_of(one), sequence_of(other))


def change(row, other):
    left = common(row, other)
    row, other = list(row[left:]), list(other[left:])
    right = common(row[::-1], other[::-1])
    return left, right, len(row) - right, len(other) - right


def changes(runs, others):
    rows = list(itertools.zip_longest(all_rows(runs), all_rows(others), fillvalue=()))
    return tuple(change(row, other) for row, other in rows)


def walking(node):
    """The list of what walking a tree yields."""
    if node is None or isinstance(node, int):
        return [] if node is None else [node]
    inner = (node[1],) if node[0] == "run" else node[1]
    return [node] + [found for part in inner for found in walking(part)]


def inner_nodes(tree):
    """The set of the runs and blocks of a tree."""
    return {node for node in walking(tree) if isinstance(node, tuple)}


def in_order(nodes):
    return tuple(sorted(nodes, key=text))


def melted(runs):
    out = []
    for element, count in runs:
        if out and out[-1][0] == element:
            count += out.pop()[1]
        out.append((element, count))
    return tuple(out)


FEW = 70


@functools.cache
def growing(runs):
    """Of a sequence that is written a FEW times: the first row in which one time more only makes one
    run longer, the place of this run, and by how much it grows."""
    for row, longer, longest in zip(*[all_rows(melted(runs * times)) for times in (FEW, FEW + 1, FEW + 5)]):
        at = common(row, longer)
        if len(row) == len(longer) == len(longest) and row[at + 1:] == longer[at + 1:] == longest[at + 1:]:
            break
    (_, base, count), (_, same, more), (_, last, most) = row[at], longer[at], longest[at]
    assert base == same == last and most - count == 5 * (more - count) and row[:at] == longest[:at]
    return row, at, more - count


@functools.cache
def repeated(runs, times):
    """The tree of a sequence that is written so many times, as section 12 asks for it."""
    if times <= FEW:
        return tree(melted(runs * times))
    row, at, growth = growing(runs)
    _, base, count = row[at]
    row = row[:at] + (("run", base, count + (times - FEW) * growth),) + row[at + 1:]
    while len(row) > 1:
        row = with_runs([("block", piece) for piece in pieces(row)])
    return row[0]


def some_runs(chance, pairs, alphabet=(0, 1, 2), counts=(1, 1, 1, 2)):
    """Runs of so many pairs by a chance that the test has seeded."""
    runs = []
    while len(runs) < pairs:
        element = chance.choice(alphabet)
        if not runs or runs[-1][0] != element:
            runs.append((element, chance.choice(counts)))
    return tuple(runs)


ALPHABETS = (
    (0, 1),
    (1, 2, 3),
    (1, 11, 111, 1111, 12, 10),
    (0, 10 ** 9, 10 ** 9 - 1, 100000000, 5),
    tuple(range(500)),
)


def many_runs(seed, times, most=300):
    """Runs of many kinds and lengths, the same ones for the same seed."""
    chance = random.Random(seed)
    for time in range(times):
        counts = ((1,), (1, 1, 2, 3), (1, 2, 20, 21, 10 ** 60))[time % 3]
        yield some_runs(chance, chance.randint(0, most), ALPHABETS[time % len(ALPHABETS)], counts)


def small_runs():
    """Runs of none to about a hundred elements, of many kinds."""
    for length in range(5):
        for sequence in itertools.product((1, 2), repeat=length):
            yield as_runs(sequence)
    chance = random.Random(30)
    for time in range(60):
        alphabet = ALPHABETS[time % len(ALPHABETS)]
        runs = some_runs(chance, chance.randint(1, 25), alphabet, ((1,), (1, 1, 2, 5), (3, 12))[time % 3])
        yield runs if time % 4 else melted(runs[:6] * chance.randint(2, 8))


def long_sequences():
    """Runs and times of sequences that are far too long to go through them one by one."""
    yield ((1, 1), (2, 1)), 10 ** 18
    yield ((1, 1), (2, 3), (1, 1)), 10 ** 18
    yield ((1, 10 ** 60), (2, 1), (3, 10 ** 60)), 10 ** 18 - 1
    chance = random.Random(31)
    for time in range(12):
        counts = ((1,), (1, 1, 2, 3), (1, 2, 10 ** 59))[time % 3]
        runs = some_runs(chance, chance.choice((3, 12, 40)), ALPHABETS[time % len(ALPHABETS)], counts)
        yield runs, 10 ** 18 - chance.randrange(10 ** 17)


# Values of every kind that are neither nodes nor runs nor texts of nodes.
STRANGE_VALUES = (
    True, False, -1, 10 ** 9 + 1, -(10 ** 60), 10 ** 5000, "", "x", "run", "block",
    [], [5], [1, 2], {}, {"run": 5}, {5: "block"}, ("run",), ("block",), ("run", 5), ("block", 5),
    ("block", ()), ("block", (1,)), ("block", (1, 2, 3, 4)), ("block", (1, 1)), ("block", (1, 2, 2)),
    ("block", [1, 2]), ["block", (1, 2)], ("block", (1, 2), 2), ("block", "12"), ("block", {1: 2, 3: 4}),
    ("block", (True, 2)), ("block", (1, False)), ("block", (1, None)), ("block", (1, "2")), ("block", None),
    ("block", (("run", 1, 2), 1)), ("block", (2, 1, ("run", 1, 2))), ("block", (("run", 1, 2), ("run", 1, 3))),
    ("block", (("block", (1, 2)), 3)), ("block", (3, ("block", (1, 2)))), ("block", (1, 2, ("block", (1, 2)))),
    ("block", (("block", (1, 2)), ("run", ("block", (1, 2)), 2))), ("block", (10 ** 9 + 1, 2)), ("block", (-1, 2)),
    ("run", 5, 1), ("run", 5, 0), ("run", 5, -2), ("run", 5, 10 ** 60 + 1), ("run", 5, True), ("run", 5, None),
    ("run", 5, "2"), ("run", True, 2), ("run", None, 2), ("run", (5,), 2), ("run", 10 ** 9 + 1, 2), ["run", 5, 2],
    ("run", ("run", 5, 2), 2), ("run", ("block", (1, 1)), 2), ("run", ("block", (1,)), 2), ("run", 5, 2, 2),
    ("run", ["block", (1, 2)], 2), ("run", ("block", [1, 2]), 2), ("block", (("block", (1, 2)), ("block", (1, 2)))),
    ("block", (("block", (1, 2)), ["block", (2, 1)])), ("Run", 5, 2), ("Block", (1, 2)), ("run ", 5, 2),
    (True, 5, 2), ((), 5, 2), ({}, (1, 2)), ([], (1, 2)), (None, (1, 2)), ("run", {}, 2), ("run", 5, {}),
)


def deep_values():
    """Values that are nested 60 deep: of one kind throughout, or shared over and over."""
    as_list, as_tuple, as_dict, as_block, as_run = [], (), {}, (1, 1), True
    for depth in range(59):
        as_list = [as_list]
        as_tuple = (as_tuple, as_tuple)
        as_dict = {depth: as_dict}
        as_run = ("run", as_run, 2)
    for _ in range(29):
        as_block = ("block", (as_block, as_block))
    return [as_list, as_tuple, as_dict, as_block, as_run]
