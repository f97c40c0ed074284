"""A store: the trees of versions under names, and the changes that can be taken back."""

from localblocks.comparing import first_difference
from localblocks.editing import joined, part, spliced
from localblocks.errors import BadName, BadRuns, BadText, BadTimes, NoName, NothingToUndo, TooLong, TooMany
from localblocks.nodes import is_whole
from localblocks.repeating import repeated
from localblocks.sharing import cost_of
from localblocks.texts import runs_with, show_runs
from localblocks.trees import is_runs, run_count, runs_of, tree_of

LETTERS = "abcdefghijklmnopqrstuvwxyz"
LONGEST_NAME = 8
MOST_REPEATED_RUNS = 40


def is_name(value):
    """Return whether any value is a name."""
    if not isinstance(value, str) or not 1 <= len(value) <= LONGEST_NAME:
        return False
    return all([sign in LETTERS for sign in value])


class Store:
    """The trees of versions under at most MOST names. All parameters may be any values.

    Each call of put, splice, part, concat, repeat and drop that returned is one change.
    """

    MOST = 60

    def __init__(self):
        # Trees by their names. A change puts a new dict in the place of the old one, and leaves that as it was.
        self._kept = {}
        # The dicts that were in this place, one for each change that can be taken back.
        self._earlier = []

    def put(self, name, runs):
        """Keep a sequence under a name. Raises BadName, BadRuns, TooMany(60)."""
        _check_name(name)
        _check_runs(runs)
        self._keep(name, tree_of(runs))

    def splice(self, name, start, stop, runs, *, to):
        """Keep, under the name to, what spliced returns for the tree under a name.

        Raises NoName, BadName(to), BadRuns, the errors of spliced, TooMany(60).
        """
        tree = self.tree(name)
        _check_name(to)
        _check_runs(runs)
        self._keep(to, spliced(tree, start, stop, runs))

    def part(self, name, start, stop, *, to):
        """Keep, under the name to, what part returns for the tree under a name.

        Raises NoName, BadName(to), the errors of part, TooMany(60).
        """
        tree = self.tree(name)
        _check_name(to)
        self._keep(to, part(tree, start, stop))

    def concat(self, one, other, *, to):
        """Keep, under the name to, what joined returns for the trees under two names.

        Raises NoName for the first name that is not kept, BadName(to), the errors of joined, TooMany(60).
        """
        tree = self.tree(one)
        behind = self.tree(other)
        _check_name(to)
        self._keep(to, joined(tree, behind))

    def repeat(self, name, times, *, to):
        """Keep, under the name to, the tree of a kept sequence that is written so many times.

        Raises NoName, BadName(to), BadTimes unless times is an integer from 1 to 10 ** 18, TooLong(40) unless
        there are 1 to 40 runs, TooMany(60).
        """
        tree = self.tree(name)
        _check_name(to)
        if not is_whole(times) or not 1 <= times <= 10 ** 18:
            raise BadTimes(times)
        if not 1 <= run_count(tree) <= MOST_REPEATED_RUNS:
            raise TooLong(MOST_REPEATED_RUNS)
        self._keep(to, repeated(runs_of(tree), times))

    def drop(self, name):
        """Keep nothing under a name any more. Raises NoName."""
        self._check_kept(name)
        kept = dict(self._kept)
        del kept[name]
        self._change(kept)

    def undo(self):
        """Take back the last change that was not taken back. Raises NothingToUndo."""
        if len(self._earlier) == 0:
            raise NothingToUndo()
        self._kept = self._earlier.pop()

    def tree(self, name):
        """Return the tree under a name. Raises NoName."""
        self._check_kept(name)
        return self._kept[name]

    def difference(self, one, other):
        """Return the first difference of the trees under two names. Raises NoName for the first that is not kept."""
        return first_difference(self.tree(one), self.tree(other))

    @property
    def names(self):
        """The ascending tuple of the names."""
        return tuple(sorted(self._kept))

    @property
    def changes(self):
        """How many changes can be taken back."""
        return len(self._earlier)

    def cost(self):
        """Return how many different runs and blocks all trees have."""
        return cost_of(tuple(self._kept.values()))

    def written(self):
        """Return the text of the store. Raises TooLong(300) if a version has more than 300 runs."""
        return "\n".join([name + " " + show_runs(runs_of(self._kept[name])) for name in self.names])

    @classmethod
    def read(cls, text):
        """Return a store with the versions that a text has, without changes. Raises BadText(text)."""
        trees = _trees_with(text)
        if trees is None:
            raise BadText(text)
        store = cls()
        store._kept = trees
        return store

    def copy(self):
        """Return an independent store in the same state, with the same changes to take back."""
        other = Store()
        other._kept = self._kept
        other._earlier = list(self._earlier)
        return other

    def __len__(self):
        return len(self._kept)

    def __eq__(self, other):
        return isinstance(other, Store) and self._kept == other._kept

    def _check_kept(self, name):
        # Asked first: what is no name may be no key either.
        if not is_name(name) or name not in self._kept:
            raise NoName(name)

    def _keep(self, name, tree):
        if name not in self._kept and len(self._kept) >= Store.MOST:
            raise TooMany(Store.MOST)
        kept = dict(self._kept)
        kept[name] = tree
        self._change(kept)

    def _change(self, kept):
        self._earlier.append(self._kept)
        self._kept = kept


def _check_name(value):
    if not is_name(value):
        raise BadName(value)


def _check_runs(value):
    if not is_runs(value):
        raise BadRuns(value)


def _trees_with(text):
    """Return a dict of the trees by their names in the text of a store, or None if any value is no such text."""
    if not isinstance(text, str):
        return None
    if text == "":
        return {}
    lines = text.split("\n")
    if len(lines) > Store.MOST:
        return None
    trees = {}
    last = ""
    for line in lines:
        name, _, behind = line.partition(" ")
        runs = runs_with(behind)
        if not is_name(name) or name <= last or runs is None:
            return None
        trees[name] = tree_of(runs)
        last = name
    return trees
