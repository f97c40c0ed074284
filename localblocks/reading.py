"""Reading trees: elements by their indexes, and the ways down to them."""

from localblocks.errors import NoIndex, TooLong
from localblocks.nodes import has_parts, is_block, is_run, is_whole, parts_once, size_of
from localblocks.rests import open_first, rest_from, take_first
from localblocks.trees import length_of

MOST_ELEMENTS = 2000


def element_at(tree, index):
    """Return the element with an index, which may be any value.

    Raises NoIndex(index) if there is none.
    """
    node, _ = way_to(tree, index)[-1]
    return node


def elements_from(tree, start, stop):
    """Return the elements from start to stop - 1, as far as there are some.

    Raises TooLong(2000) if stop - start is more, also if there are fewer elements.
    """
    wanted = stop - start
    if wanted > MOST_ELEMENTS:
        raise TooLong(MOST_ELEMENTS)
    rest = rest_from(tree, start)
    found = []
    while rest and len(found) < wanted:
        node, times = rest[-1]
        if has_parts(node):
            open_first(rest)
        else:
            # A count may be far above what is wanted.
            many = min(times, wanted - len(found))
            found.extend([node] * many)
            take_first(rest, many)
    return tuple(found)


def count_of(tree, element):
    """Return how often an element occurs."""
    if tree is None:
        return 0
    if is_run(tree):
        return count_of(tree[1], element) * tree[2]
    if is_block(tree):
        return sum([count_of(part, element) for part in tree[1]])
    return 1 if tree == element else 0


def way_to(tree, index):
    """Return the pairs (node, begin) from the tree down to the element with an index.

    The index may be any value. Raises NoIndex(index) if no element has it.
    """
    if not is_whole(index) or not 0 <= index < length_of(tree):
        raise NoIndex(index)
    node, begin = tree, 0
    way = [(node, begin)]
    while has_parts(node):
        node, begin = _part_around(node, begin, index)
        way.append((node, begin))
    return tuple(way)


def _part_around(node, begin, index):
    """Return the part in which an index lies, and its begin, of a node with a begin."""
    if is_run(node):
        return node[1], index - (index - begin) % size_of(node[1])
    at = 0
    end = begin + size_of(node[1][0])
    while end <= index:
        at += 1
        begin, end = end, end + size_of(node[1][at])
    return node[1][at], begin


def walk(tree):
    """Yield the tree, then all that walking its parts yields; of a run the node once."""
    if tree is None:
        return
    yield tree
    for part in parts_once(tree):
        yield from walk(part)
