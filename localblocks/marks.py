"""Marks, peaks and cuts: how a row of nodes becomes blocks, and nodes become runs."""

from localblocks.nodes import run_of, text_of

# The code of a character is its place here.
SIGNS = "0123456789 ()^"

# The code where the text has ended.
ENDED = 14


def first_marks(row):
    """Return the marks of a row after the first round."""
    texts = [text_of(node) for node in row]
    return tuple([_first_mark(texts, place) for place in range(len(texts))])


def _first_mark(texts, place):
    if place == 0:
        return _code_at(texts[0], 0)
    first = _first_unlike(texts[place - 1], texts[place])
    return 16 * first + _code_at(texts[place], first)


def _first_unlike(one, other):
    """Return the first index at which two texts differ or one of them has ended."""
    at = 0
    while at < len(one) and at < len(other) and one[at] == other[at]:
        at += 1
    return at


def _code_at(text, at):
    if at < len(text):
        return SIGNS.index(text[at])
    return ENDED


def next_marks(some):
    """Return what one of the later rounds makes of marks."""
    return tuple([_next_mark(some, place) for place in range(len(some))])


def _next_mark(some, place):
    if place == 0:
        return some[0] & 1
    unlike = some[place - 1] ^ some[place]
    # x & -x keeps only the lowest binary digit 1 of x.
    lowest = (unlike & -unlike).bit_length() - 1
    return 2 * lowest + ((some[place] >> lowest) & 1)


def marks(row):
    """Return the marks of a row after all rounds."""
    some = first_marks(row)
    for _ in range(4):
        some = next_marks(some)
    return some


def peaks(row):
    """Return the ascending tuple of all peaks of a row."""
    some = marks(row)
    places = range(2, len(row) - 1)
    return tuple([place for place in places if some[place - 1] < some[place] > some[place + 1]])


def cuts(row):
    """Return the ascending tuple of the places at which the blocks of a row begin."""
    tops = peaks(row)
    begins = (0,) + tops
    ends = tops + (len(row),)
    places = []
    for begin, end in zip(begins, ends):
        # No pair begins at the last node: of an odd stretch, it joins the pair ahead.
        places.extend(list(range(begin, end - 1, 2)))
    return tuple(places)


def blocks(row):
    """Return the tuple of the blocks into which a row is cut."""
    begins = cuts(row)
    ends = begins[1:] + (len(row),)
    return tuple([("block", row[begin:end]) for begin, end in zip(begins, ends)])


def made_runs(nodes):
    """Return what making runs makes of nodes of one level, none of them a run."""
    made = []
    begin = 0
    while begin < len(nodes):
        end = begin + 1
        while end < len(nodes) and nodes[end] == nodes[begin]:
            end += 1
        made.append(run_of(nodes[begin], end - begin))
        begin = end
    return tuple(made)
