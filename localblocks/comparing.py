"""Comparing: first differences and equal stretches, found and shown by nodes.

Nodes depend only on what is near them. So what sequences have in common has
equal nodes but for a few at its ends, and is gone through by nodes, however
many elements they stand for.
"""

from localblocks.nodes import has_parts, is_node, is_run, is_whole, level_of, size_of
from localblocks.rests import first_element, open_first, rest_from, take_first


def first_difference(one, other):
    """Return the first index at which elements differ or a sequence ends, None for equal trees."""
    if one == other:
        return None
    return _length_in_all(evidence(one, other))


def same_stretch(one, first, other, second, length):
    """Return whether as many elements as length are equal, from first of one and second of other."""
    pairs = _taken_in_common(rest_from(one, first), rest_from(other, second))
    return _length_in_all(pairs) >= length


def evidence(one, other):
    """Return pairs (node, times) that show what both sequences have in common from the beginning."""
    return tuple(_taken_in_common(rest_from(one, 0), rest_from(other, 0)))


def _length_in_all(pairs):
    return sum([size_of(node) * times for node, times in pairs])


def _taken_in_common(rest, others):
    """Take off two rests what they have in common from the beginning, and return it as pairs (node, times)."""
    pairs = []
    while rest and others:
        _open_run(rest)
        _open_run(others)
        node, times = rest[-1]
        other, many = others[-1]
        if node == other:
            pairs.append((node, min(times, many)))
            take_first(rest, min(times, many))
            take_first(others, min(times, many))
        elif has_parts(node) or has_parts(other):
            _open_higher(rest, others)
        else:
            return pairs
    return pairs


def _open_run(rest):
    """Enter the run with which a rest begins: runs with unlike counts may have nodes in common."""
    node, _ = rest[-1]
    if is_run(node):
        open_first(rest)


def _open_higher(rest, others):
    """Open the first node of the rest in which it has the higher level."""
    # Of one level, unlike nodes are both opened: one now, the other next, as it is the higher one then.
    if level_of(rest[-1][0]) > level_of(others[-1][0]):
        open_first(rest)
    else:
        open_first(others)


def shows_common(one, other, value):
    """Return whether any value is a tuple of pairs as evidence returns them, however many they are."""
    if not isinstance(value, tuple):
        return False
    rest = rest_from(one, 0)
    others = rest_from(other, 0)
    for pair in value:
        if not _is_pair(pair) or not _was_taken(rest, pair) or not _was_taken(others, pair):
            return False
    # So far both are equal: what is left shows whether they are so for longer.
    element = first_element(rest)
    return element is None or element != first_element(others)


def _is_pair(value):
    return isinstance(value, tuple) and len(value) == 2 and is_whole(value[1]) and value[1] >= 1


def _was_taken(rest, pair):
    """Take a pair off the beginning of a rest if it stands there; return whether it does."""
    value, times = pair
    while rest:
        node, left = rest[-1]
        # Compared first: a value that is like no node here may be large. Booleans equal integers, but are no nodes.
        if times <= left and value == node and is_node(value):
            take_first(rest, times)
            return True
        if not has_parts(node):
            return False
        open_first(rest)
    return False
