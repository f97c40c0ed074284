"""Trees: from runs to rows and the tree of a sequence, and back."""

from localblocks.errors import TooLong
from localblocks.marks import blocks, made_runs
from localblocks.nodes import is_block, is_count, is_element, is_node, is_run, run_of, size_of

MOST_RUNS = 300


def is_runs(value):
    """Return whether any value is runs of at most 300 pairs."""
    if not isinstance(value, tuple) or len(value) > MOST_RUNS:
        return False
    for at, pair in enumerate(value):
        if not _is_pair(pair):
            return False
        if at > 0 and value[at - 1][0] == pair[0]:
            return False
    return True


def _is_pair(value):
    return isinstance(value, tuple) and len(value) == 2 and is_element(value[0]) and is_count(value[1], 1)


def rows_of(runs):
    """Return the tuple of the rows of a sequence."""
    if len(runs) == 0:
        return ()
    row = tuple([run_of(element, count) for element, count in runs])
    rows = [row]
    while len(row) > 1:
        row = made_runs(blocks(row))
        rows.append(row)
    return tuple(rows)


def tree_of(runs):
    """Return the tree of a sequence, None for the empty one."""
    rows = rows_of(runs)
    if len(rows) == 0:
        return None
    return rows[-1][0]


def melted(pieces):
    """Return pairs (node, count) of several tuples, one behind the other: equal nodes melt where they meet."""
    made = []
    for pairs in pieces:
        for node, count in pairs:
            if made and made[-1][0] == node:
                made[-1] = (node, made[-1][1] + count)
            else:
                made.append((node, count))
    return tuple(made)


def length_of(tree):
    """Return how many elements a tree's sequence has."""
    if tree is None:
        return 0
    return size_of(tree)


def run_count(tree):
    """Return how many pairs the runs of a tree's sequence have."""
    if tree is None:
        return 0
    # In row 0 neighbours are unlike, so no two parts share a pair of the runs.
    if is_block(tree):
        return sum([run_count(part) for part in tree[1]])
    if is_run(tree) and is_block(tree[1]):
        return run_count(tree[1]) * tree[2]
    return 1


def runs_of(tree):
    """Return the runs of a tree's sequence.

    Raises TooLong(300) if there are more pairs.
    """
    if run_count(tree) > MOST_RUNS:
        raise TooLong(MOST_RUNS)
    return _pairs_of(tree)


def _pairs_of(tree):
    """Return the pairs of the elements and the runs of elements of a tree, in their order."""
    if tree is None:
        return ()
    if is_block(tree):
        pairs = []
        for part in tree[1]:
            pairs.extend(_pairs_of(part))
        return tuple(pairs)
    if not is_run(tree):
        return ((tree, 1),)
    if is_block(tree[1]):
        return _pairs_of(tree[1]) * tree[2]
    return ((tree[1], tree[2]),)


def is_tree(value):
    """Return whether any value is the tree of a sequence of at most 300 runs."""
    if value is None:
        return True
    # The pairs are counted first: a short value may stand for far too many.
    if not is_node(value) or run_count(value) > MOST_RUNS:
        return False
    runs = _pairs_of(value)
    return is_runs(runs) and tree_of(runs) == value
