"""Rests: what is left of a sequence from some index on, as nodes that are opened only where it is needed.

A rest is a list of pairs (node, times): each node so many times, one pair
behind the other, make up what is left. The first pair stands last, where a list
is quick to take from and to add to. A run that is entered becomes the pair of
its node and its count; so a run that stands in a pair is a whole one.
"""

from localblocks.nodes import has_parts, is_run, parts_once, size_of


def rest_from(tree, index):
    """Return what is left of a tree's sequence from an index on."""
    rest = []
    if tree is not None:
        rest.append((tree, 1))
    while index > 0 and rest:
        node, times = rest[-1]
        size = size_of(node)
        if index < size:
            open_first(rest)
        else:
            whole = min(times, index // size)
            take_first(rest, whole)
            index -= whole * size
    return rest


def take_first(rest, times):
    """Take the first node of a rest off it, so many times."""
    node, left = rest.pop()
    if times < left:
        rest.append((node, left - times))


def open_first(rest):
    """Put the parts of the first node of a rest, which is no element, in its place."""
    node, _ = rest[-1]
    take_first(rest, 1)
    if is_run(node):
        rest.append((node[1], node[2]))
    else:
        rest.extend([(part, 1) for part in reversed(node[1])])


def first_element(rest):
    """Return the first element of a rest, or None if nothing is left."""
    if not rest:
        return None
    node, _ = rest[-1]
    while has_parts(node):
        node = parts_once(node)[0]
    return node
