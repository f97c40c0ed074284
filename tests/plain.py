"""A second reading of the sections 13 to 15, over lists of elements and patterns, to compare with.

It shares no code with the package: an error is a Refused with its name and its values.
"""

import functools
import re

import reference
from localblocks.errors import BlockError


class Refused(Exception):
    """What an error of the package should be: its name, and the values of its attributes in their order."""

    def __init__(self, name, *values):
        super().__init__(name)
        self.name, self.values = name, values


def need(holds, name, *values):
    if not holds:
        raise Refused(name, *values)


def outcome(call):
    """What a call of the package or of this file returns, or the name and the values of its error."""
    try:
        return "returned", call()
    except BlockError as error:
        return type(error).__name__, tuple(vars(error).values())
    except Refused as error:
        return error.name, error.values


def is_integer(value):
    return type(value) is int


def is_name(value):
    return type(value) is str and re.fullmatch("[a-z]{1,8}", value) is not None


def is_pair(value):
    return (type(value) is tuple and len(value) == 2 and is_integer(value[0]) and is_integer(value[1])
            and 0 <= value[0] <= 10 ** 9 and 1 <= value[1] <= 10 ** 60)


def is_runs(value):
    return (type(value) is tuple and len(value) <= 300 and all(map(is_pair, value))
            and all(one[0] != other[0] for one, other in zip(value, value[1:])))


def show_runs(runs):
    return " ".join(f"{e}^{c}" if c > 1 else f"{e}" for e, c in runs) or "-"


PAIR = re.compile(r"(0|[1-9][0-9]{0,9})(?:\^([1-9][0-9]{0,60}))?")


def read_runs(text):
    """The runs with this text, or None."""
    if type(text) is not str:
        return None
    if text == "-":
        return ()
    found = [PAIR.fullmatch(word) for word in text.split(" ")]
    if None in found or any(match[2] == "1" for match in found):
        return None
    runs = tuple((int(match[1]), int(match[2] or 1)) for match in found)
    return runs if is_runs(runs) else None


def read_lines(text):
    """The runs by their names that the text of a store has, or None."""
    if type(text) is not str:
        return None
    lines = [line.partition(" ") for line in text.split("\n")] if text else []
    names = [name for name, _, _ in lines]
    runs = [read_runs(behind) for _, _, behind in lines]
    good = len(lines) <= 60 and all(map(is_name, names)) and None not in runs
    return dict(zip(names, runs)) if good and names == sorted(set(names)) else None


@functools.cache
def tree_of(sequence):
    return reference.tree(reference.as_runs(sequence))


@functools.cache
def inner_nodes_of(sequence):
    return frozenset(reference.inner_nodes(tree_of(sequence)))


class PlainStore:
    """Tuples of elements by their names, and all that it was before."""

    def __init__(self):
        self.versions, self.past = {}, []

    def keep(self, name, sequence):
        need(name in self.versions or len(self.versions) < 60, "TooMany", 60)
        self.past.append(dict(self.versions))
        self.versions[name] = tuple(sequence)

    def version(self, name):
        need(is_name(name) and name in self.versions, "NoName", name)
        return self.versions[name]

    def put(self, name, runs):
        need(is_name(name), "BadName", name)
        need(is_runs(runs), "BadRuns", runs)
        self.keep(name, reference.as_sequence(runs))

    def splice(self, name, start, stop, runs, *, to):
        old = self.version(name)
        need(is_name(to), "BadName", to)
        need(is_runs(runs), "BadRuns", runs)
        self.need_range(start, stop, old)
        new = old[:start] + tuple(reference.as_sequence(runs)) + old[stop:]
        self.need_short(old, new)
        self.keep(to, new)

    def part(self, name, start, stop, *, to):
        old = self.version(name)
        need(is_name(to), "BadName", to)
        self.need_range(start, stop, old)
        self.need_short(old)
        self.keep(to, old[start:stop])

    def concat(self, one, other, *, to):
        old, behind = self.version(one), self.version(other)
        need(is_name(to), "BadName", to)
        self.need_short(old, behind, old + behind)
        self.keep(to, old + behind)

    def repeat(self, name, times, *, to):
        old = self.version(name)
        need(is_name(to), "BadName", to)
        need(is_integer(times) and 1 <= times <= 10 ** 18, "BadTimes", times)
        need(1 <= len(reference.as_runs(old)) <= 40, "TooLong", 40)
        self.keep(to, old * times)

    def need_range(self, start, stop, old):
        good = is_integer(start) and is_integer(stop) and 0 <= start <= stop <= len(old)
        need(good, "NoRange", start, stop)

    def need_short(self, *sequences):
        need(all(len(reference.as_runs(some)) <= 300 for some in sequences), "TooLong", 300)

    def drop(self, name):
        self.version(name)
        self.past.append(dict(self.versions))
        del self.versions[name]

    def undo(self):
        need(self.past, "NothingToUndo")
        self.versions = self.past.pop()

    def tree(self, name):
        return tree_of(self.version(name))

    def difference(self, one, other):
        some, others = self.version(one), self.version(other)
        return None if some == others else reference.common(some, others)

    @property
    def names(self):
        return tuple(sorted(self.versions))

    @property
    def changes(self):
        return len(self.past)

    def cost(self):
        return len(frozenset().union(*map(inner_nodes_of, self.versions.values())))

    def written(self):
        self.need_short(*self.versions.values())
        return "\n".join(f"{name} {show_runs(reference.as_runs(self.versions[name]))}" for name in self.names)


# Each form of a line, and what answers it: a PlainStore is passed the values.
FORMS = {
    "put NAME RUNS": lambda store, name, runs: store.put(name, runs),
    "splice NAME N N NAME RUNS": lambda store, name, start, stop, to, runs: store.splice(name, start, stop, runs, to=to),
    "part NAME N N NAME": lambda store, name, start, stop, to: store.part(name, start, stop, to=to),
    "join NAME NAME NAME": lambda store, one, other, to: store.concat(one, other, to=to),
    "repeat NAME N NAME": lambda store, name, times, to: store.repeat(name, times, to=to),
    "drop NAME": lambda store, name: store.drop(name),
    "undo": lambda store: store.undo(),
    "show NAME": lambda store, name: "-" if store.version(name) == () else reference.text(store.tree(name)),
    "at NAME N": lambda store, name, index: element(store.version(name), index),
    "size NAME": lambda store, name: len(store.version(name)),
    "rows NAME": lambda store, name: rows(store.version(name)),
    "diff NAME NAME": lambda store, one, other: "-" if (at := store.difference(one, other)) is None else at,
    "cost": lambda store: store.cost(),
    "names": lambda store: " ".join(store.names) or "-",
}
KINDS = {"NAME": "([a-z]{1,8})", "N": "(0|[1-9][0-9]{0,39})", "RUNS": "(.*)"}


def element(sequence, index):
    need(index < len(sequence), "NoIndex", index)
    return sequence[index]


def rows(sequence):
    runs = reference.as_runs(sequence)
    need(len(runs) <= 300, "TooLong", 300)
    return len(reference.all_rows(runs))


def read_line(line):
    """The form of a line and its values, or None."""
    for form in FORMS if type(line) is str else ():
        kinds = form.split(" ")
        match = re.fullmatch(" ".join(KINDS.get(kind, kind) for kind in kinds), line, re.DOTALL)
        if match:
            values = [int(text) if kind == "N" else read_runs(text) if kind == "RUNS" else text
                      for kind, text in zip(kinds[1:], match.groups())]
            return None if None in values else (form, values)
    return None


class PlainDesk:
    """A PlainStore that is used by lines."""

    def __init__(self):
        self.store = PlainStore()

    def say(self, line):
        found = read_line(line)
        need(found is not None, "BadLine", line)
        form, values = found
        answer = FORMS[form](self.store, *values)
        return "ok" if answer is None else str(answer)
