"""Sharing: which runs and blocks trees have in common."""

from localblocks.nodes import has_parts, text_of
from localblocks.reading import walk


def nodes_of(tree):
    """Return the different runs and blocks of a tree, ascending by their texts."""
    found = _by_texts(tree)
    return tuple([found[text] for text in sorted(found)])


def shared(one, other):
    """Return the runs and blocks that both trees have, ascending by their texts."""
    known = _by_texts(one)
    found = _by_texts(other)
    return tuple([found[text] for text in sorted(found) if text in known])


def fresh(one, other):
    """Return the runs and blocks that other has and one does not have, ascending by their texts."""
    known = _by_texts(one)
    found = _by_texts(other)
    return tuple([found[text] for text in sorted(found) if text not in known])


def cost_of(trees):
    """Return how many different runs and blocks a tuple of trees has in all."""
    found = {}
    for tree in trees:
        found.update(_by_texts(tree))
    return len(found)


def _by_texts(tree):
    """Return a dict of the different runs and blocks of a tree by their texts."""
    found = {}
    for node in walk(tree):
        if has_parts(node):
            found[text_of(node)] = node
    return found
