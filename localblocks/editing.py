"""Editing: the trees of changed, cut and joined sequences, and what an edit changed."""

from localblocks.errors import NoRange, TooLong
from localblocks.nodes import is_whole
from localblocks.trees import MOST_RUNS, length_of, melted, rows_of, runs_of, tree_of


def spliced(tree, start, stop, runs):
    """Return the tree of the sequence with the elements from start to stop - 1 replaced by those of runs.

    Raises NoRange(start, stop) unless they bound a part; then TooLong(300).
    """
    _check_range(tree, start, stop)
    pairs = runs_of(tree)
    ahead = _pairs_between(pairs, 0, start)
    behind = _pairs_between(pairs, stop, length_of(tree))
    return _tree_of_pieces((ahead, runs, behind))


def part(tree, start, stop):
    """Return the tree of the elements from start to stop - 1 alone.

    Raises NoRange(start, stop) unless they bound a part; then TooLong(300).
    """
    _check_range(tree, start, stop)
    return tree_of(_pairs_between(runs_of(tree), start, stop))


def joined(one, other):
    """Return the tree of both sequences, one behind the other; raises TooLong(300)."""
    return _tree_of_pieces((runs_of(one), runs_of(other)))


def _check_range(tree, start, stop):
    if not is_whole(start) or not is_whole(stop) or not 0 <= start <= stop <= length_of(tree):
        raise NoRange(start, stop)


def _pairs_between(pairs, start, stop):
    """Return the runs of the elements from start to stop - 1 of some runs."""
    kept = []
    begin = 0
    for element, count in pairs:
        end = begin + count
        many = min(end, stop) - max(begin, start)
        if many > 0:
            kept.append((element, many))
        begin = end
    return tuple(kept)


def _tree_of_pieces(pieces):
    """Return the tree of runs, one behind the other; raises TooLong(300) if they make too many."""
    runs = melted(pieces)
    if len(runs) > MOST_RUNS:
        raise TooLong(MOST_RUNS)
    return tree_of(runs)


def changed(one, other):
    """Return (left, right, many, others) for each row number that one of two sequences has.

    Raises TooLong(300) if one of them has more than 300 runs.
    """
    rows = rows_of(runs_of(one))
    against = rows_of(runs_of(other))
    numbers = range(max(len(rows), len(against)))
    return tuple([_row_change(_row_at(rows, at), _row_at(against, at)) for at in numbers])


def _row_at(rows, number):
    """Return the row with a number; without one it is empty."""
    if number < len(rows):
        return rows[number]
    return ()


def _row_change(row, against):
    left = _equal_at_begin(row, against)
    right = _equal_at_begin(row[left:][::-1], against[left:][::-1])
    return left, right, len(row) - left - right, len(against) - left - right


def _equal_at_begin(row, against):
    """Return how many nodes are equal at the beginning of two rows."""
    many = 0
    while many < len(row) and many < len(against) and row[many] == against[many]:
        many += 1
    return many
