"""Repeating: the trees of sequences that are written very often, one behind the other.

A row of such a sequence is held as (head, period, times, tail), each but times a
tuple of pairs (node, count): those of head, those of period so many times, and
those of tail make up the row. How a row is cut depends only on what is near, so
the next row has this form, too, and its period has at most half as many pairs.
At last a period is one node, and its copies are one run.
"""

from localblocks.marks import blocks, cuts, peaks
from localblocks.nodes import run_of
from localblocks.trees import melted, tree_of

# A mark depends on its node and the five to the left, a peak on the marks of its two neighbours, too.
LEFT_OF_PEAK = 6

# So many copies, of two nodes or more, hold a peak that depends on copies alone, and the same peak one copy on:
# LEFT_OF_PEAK nodes, len(period) places of which one is a peak, as many again, and the node to the right of it.
SHOWN = 6


def repeated(runs, times):
    """Return the tree of a sequence of 1 to 40 runs, written so many times, 1 to 10 ** 18."""
    head, period, many, tail = _with_runs((), runs, times, ())
    while many >= SHOWN:
        head, period, many, tail = _cut(head, period, many, tail)
        head, period, many, tail = _with_runs(head, period, many, tail)
    # A row leads to the tree as runs do, which are the first row.
    return tree_of(head + period * many + tail)


def _with_runs(head, period, times, tail):
    """Return a row in which equal neighbours are made one; its period has two pairs or more, or no copies."""
    period = melted((period,))
    first, others = period[:1], period[1:]
    if len(others) == 0:
        node, count = period[0]
        return melted((head, ((node, count * times),), tail)), (), 0, ()
    # The first node and the one behind it are unlike: with copies that begin between them, nothing melts
    # where one of them meets another one, the head or the tail.
    return melted((head, first)), melted((others, first)), times - 1, melted((others, tail))


def _cut(head, period, times, tail):
    """Return the blocks of a row that has at least SHOWN copies, each block once.

    From a peak that depends on copies alone to the same one in the next copy the blocks are a period.
    The copies that are not shown would stand between these two peaks, cut in the same way.
    """
    row = tuple([run_of(node, count) for node, count in head + period * SHOWN + tail])
    peak = [place for place in peaks(row) if place >= len(head) + LEFT_OF_PEAK][0]
    begins = cuts(row)
    at = begins.index(peak)
    behind = begins.index(peak + len(period))
    made = tuple([(block, 1) for block in blocks(row)])
    return made[:at], made[at:behind], times - SHOWN + 1, made[behind:]
