"""Nodes: elements, runs and blocks; their levels, sizes and texts."""

from localblocks.errors import BadText

DIGITS = "0123456789"

# 10 ** 60, the greatest number in a node, has 61 digits.
MOST_DIGITS = 61


def is_whole(value):
    """Return whether a value is an integer; a boolean is none here."""
    return isinstance(value, int) and not isinstance(value, bool)


def is_element(value):
    """Return whether a value is an element."""
    return is_whole(value) and 0 <= value <= 10 ** 9


def is_count(value, least):
    """Return whether a value is a count that is not below the least one."""
    return is_whole(value) and least <= value <= 10 ** 60


def is_run(value):
    """Return whether a value is marked as a run; of nodes, only runs are."""
    return isinstance(value, tuple) and value[:1] == ("run",)


def is_block(value):
    """Return whether a value is marked as a block; of nodes, only blocks are."""
    return isinstance(value, tuple) and value[:1] == ("block",)


def base_of(node):
    """Return the node that a run repeats; any other node is its own base."""
    if is_run(node):
        return node[1]
    return node


def has_parts(node):
    """Return whether a node has parts; elements have none."""
    return isinstance(node, tuple)


def parts_once(node):
    """Return the tuple of the parts of a node, of a run its node once."""
    if is_run(node):
        return (node[1],)
    if is_block(node):
        return node[1]
    return ()


def run_of(node, count):
    """Return the run of a node so many times; once, it is the node itself."""
    if count == 1:
        return node
    return ("run", node, count)


def is_node(value):
    """Return whether any value is a node."""
    if is_run(value):
        return len(value) == 3 and is_count(value[2], 2) and not is_run(value[1]) and is_node(value[1])
    if is_block(value):
        return len(value) == 2 and isinstance(value[1], tuple) and _can_be_parts(value[1])
    return is_element(value)


def _can_be_parts(values):
    """Return whether a tuple of any values can be the nodes of a block."""
    if not 2 <= len(values) <= 3:
        return False
    # One by one: what is no node at all may be of any form, and has no level.
    for value in values:
        if not is_node(value):
            return False
    return _fit_together(values)


def _fit_together(nodes):
    """Return whether nodes are of one level, neighbouring ones with unlike bases."""
    for at in range(1, len(nodes)):
        if level_of(nodes[at - 1]) != level_of(nodes[at]) or base_of(nodes[at - 1]) == base_of(nodes[at]):
            return False
    return True


def level_of(node):
    """Return the level of a node."""
    level = 0
    below = base_of(node)
    while is_block(below):
        level += 1
        below = base_of(below[1][0])
    return level


def size_of(node):
    """Return the number of elements that a node stands for."""
    if is_run(node):
        return size_of(node[1]) * node[2]
    if is_block(node):
        return sum([size_of(part) for part in node[1]])
    return 1


def text_of(node):
    """Return the text of a node."""
    if is_run(node):
        return text_of(node[1]) + "^" + str(node[2])
    if is_block(node):
        return "(" + " ".join([text_of(part) for part in node[1]]) + ")"
    return str(node)


def node_from(text):
    """Return the node with this text, which may be any value.

    Raises BadText(text) if there is none.
    """
    node = node_with(text)
    if node is None:
        raise BadText(text)
    return node


def node_with(text):
    """Return the node with this text, which may be any value, or None if there is none.

    The open brackets are kept in a list, not by recursion: a wrong text may
    have thousands of them. Nodes are not deep: each level at least doubles
    the length of the text.
    """
    if not isinstance(text, str):
        return None
    opened = []
    at = 0
    while True:
        while text[at:at + 1] == "(":
            opened.append([])
            at += 1
        node, at = _read_element(text, at)
        node, at = _read_count(node, text, at)
        while node is not None and opened and text[at:at + 1] == ")":
            opened[-1].append(node)
            node = _closed(opened.pop())
            node, at = _read_count(node, text, at + 1)
        if node is None:
            return None
        if not opened:
            return node if at == len(text) else None
        if text[at:at + 1] != " ":
            return None
        opened[-1].append(node)
        at += 1


def _closed(parts):
    """Return the block of these nodes, or None if they make none."""
    if 2 <= len(parts) <= 3 and _fit_together(parts):
        return ("block", tuple(parts))
    return None


def _read_element(text, at):
    """Return the element that is written at a place, or None, and the place behind it."""
    end = _digits_end(text, at)
    number = whole_with(text[at:end], MOST_DIGITS)
    return (number if is_element(number) else None), end


def _read_count(node, text, at):
    """Return a node as a run if a count is written at a place, and the place behind it.

    The node is None if none was read, or if what follows it is no count.
    """
    if node is None or text[at:at + 1] != "^":
        return node, at
    end = _digits_end(text, at + 1)
    count = whole_with(text[at + 1:end], MOST_DIGITS)
    return (run_of(node, count) if is_count(count, 2) else None), end


def _digits_end(text, at):
    """Return the place behind the digits that begin at a place."""
    while at < len(text) and text[at] in DIGITS:
        at += 1
    return at


def whole_with(text, most):
    """Return the integer from 0 with this text, or None if there is none of at most so many digits."""
    # int() is not asked for thousands of digits: it refuses them.
    if not 1 <= len(text) <= most or _digits_end(text, 0) < len(text):
        return None
    if text[0] == "0" and len(text) > 1:
        return None
    return int(text)
