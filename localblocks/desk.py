"""A desk: a store that is used by lines."""

from localblocks.errors import BadLine
from localblocks.nodes import whole_with
from localblocks.reading import element_at
from localblocks.store import Store, is_name
from localblocks.texts import runs_with, show_tree
from localblocks.trees import length_of, rows_of, runs_of

MOST_DIGITS = 40

# What each line that changed the store is answered.
DONE = "ok"

# What stands for no difference, and for no names.
NONE = "-"


def _put(store, name, runs):
    store.put(name, runs)
    return DONE


def _splice(store, name, start, stop, to, runs):
    store.splice(name, start, stop, runs, to=to)
    return DONE


def _part(store, name, start, stop, to):
    store.part(name, start, stop, to=to)
    return DONE


def _join(store, one, other, to):
    store.concat(one, other, to=to)
    return DONE


def _repeat(store, name, times, to):
    store.repeat(name, times, to=to)
    return DONE


def _drop(store, name):
    store.drop(name)
    return DONE


def _undo(store):
    store.undo()
    return DONE


def _show(store, name):
    return show_tree(store.tree(name))


def _at(store, name, index):
    return str(element_at(store.tree(name), index))


def _size(store, name):
    return str(length_of(store.tree(name)))


def _rows(store, name):
    return str(len(rows_of(runs_of(store.tree(name)))))


def _diff(store, one, other):
    index = store.difference(one, other)
    return NONE if index is None else str(index)


def _cost(store):
    return str(store.cost())


def _names(store):
    return " ".join(store.names) if len(store) > 0 else NONE


# What follows each first word of a line.
FORMS = {
    "put": ("NAME", "RUNS"),
    "splice": ("NAME", "N", "N", "NAME", "RUNS"),
    "part": ("NAME", "N", "N", "NAME"),
    "join": ("NAME", "NAME", "NAME"),
    "repeat": ("NAME", "N", "NAME"),
    "drop": ("NAME",),
    "undo": (),
    "show": ("NAME",),
    "at": ("NAME", "N"),
    "size": ("NAME",),
    "rows": ("NAME",),
    "diff": ("NAME", "NAME"),
    "cost": (),
    "names": (),
}

# What answers each first word of a line, with the store and what follows.
ANSWERS = {
    "put": _put,
    "splice": _splice,
    "part": _part,
    "join": _join,
    "repeat": _repeat,
    "drop": _drop,
    "undo": _undo,
    "show": _show,
    "at": _at,
    "size": _size,
    "rows": _rows,
    "diff": _diff,
    "cost": _cost,
    "names": _names,
}


class Desk:
    """A store that is used by lines."""

    def __init__(self):
        self._store = Store()

    def say(self, line):
        """Do what a line says, which may be any value, and return the answer.

        Raises BadLine(line) if it has none of the forms; then the errors of the store and the functions.
        """
        words = _words_of(line)
        values = _values_of(words)
        if values is None:
            raise BadLine(line)
        answer = ANSWERS[words[0]]
        return answer(self._store, *values)


def _words_of(line):
    """Return the list of the words of a line; any other value has none."""
    if not isinstance(line, str):
        return []
    return line.split(" ")


def _values_of(words):
    """Return the list of the values behind the first word, or None if the words have none of the forms."""
    if len(words) == 0 or words[0] not in FORMS:
        return None
    kinds = FORMS[words[0]]
    texts = words[1:]
    if "RUNS" in kinds:
        ahead = len(kinds) - 1
        texts = texts[:ahead] + [" ".join(texts[ahead:])]
    if len(texts) != len(kinds):
        return None
    values = [_value_of(kind, text) for kind, text in zip(kinds, texts)]
    return None if None in values else values


def _value_of(kind, text):
    """Return the value of a kind that has this text, or None."""
    if kind == "NAME":
        return text if is_name(text) else None
    if kind == "N":
        return whole_with(text, MOST_DIGITS)
    return runs_with(text)
