"""Texts of runs and of trees, and the runs and trees with these texts."""

from localblocks.errors import BadText
from localblocks.nodes import is_run, node_with, run_of, text_of
from localblocks.trees import is_runs, is_tree

# The text of the empty sequence, of its runs and its tree.
EMPTY = "-"


def show_runs(runs):
    """Return the text of runs."""
    if len(runs) == 0:
        return EMPTY
    return " ".join([text_of(run_of(element, count)) for element, count in runs])


def read_runs(text):
    """Return the runs with this text, which may be any value.

    Raises BadText(text) if there are none of at most 300 pairs.
    """
    runs = runs_with(text)
    if runs is None:
        raise BadText(text)
    return runs


def runs_with(text):
    """Return the runs with this text, which may be any value, or None if there are none of at most 300 pairs."""
    if not isinstance(text, str):
        return None
    if text == EMPTY:
        return ()
    runs = tuple([_pair_with(word) for word in text.split(" ")])
    return runs if is_runs(runs) else None


def _pair_with(word):
    """Return the pair with this text; what is returned for another word is no pair of runs."""
    # A pair has the text of a node; a block has a blank in its text, and a word has none.
    node = node_with(word)
    if is_run(node):
        return node[1], node[2]
    return node, 1


def show_tree(tree):
    """Return the text of a tree."""
    if tree is None:
        return EMPTY
    return text_of(tree)


def read_tree(text):
    """Return the tree with this text, which may be any value.

    Raises BadText(text) if there is none of a sequence of at most 300 runs.
    """
    if text == EMPTY:
        return None
    tree = node_with(text)
    if tree is None or not is_tree(tree):
        raise BadText(text)
    return tree
