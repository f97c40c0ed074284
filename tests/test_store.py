import copy
import itertools
import random
import unittest

import plain
import reference
from localblocks.errors import (BadName, BadRuns, BadText, BadTimes, BlockError, NoName, NoRange, NothingToUndo, TooLong,
                                TooMany)
from localblocks.nodes import size_of, text_of
from localblocks.reading import element_at
from localblocks.repeating import repeated
from localblocks.sharing import cost_of
from localblocks.store import Store
from localblocks.trees import is_tree, run_count, tree_of

LARGE = 10 ** 60
MOST = 10 ** 18
RUNS = ((5, 2), (7, 1))
NAMES = tuple("".join(pair) for pair in itertools.product("abcdefgh", repeat=2))[:61]
WIDE = tuple((at % 2, 1) for at in range(300))

# Values that are no names, and some that are not even strings.
NO_NAMES = (
    "", "abcdefghi", "A", "aB", "a1", "1", "a b", " a", "a ", "a\n", "\n", "-", "_", "a_b", "a.b", "\u00e4", "\u00df", "\u0430",
    "a" * 20000, None, True, False, 0, 1, -1, 10 ** 5000, [], ["a"], ("a",), (), {}, {"a": "b"}, [[]], "a\u0000", "\ud800",
)
# Values that are no integers from 1 to 10 ** 18.
NO_TIMES = (0, -1, MOST + 1, 10 ** 5000, True, False, None, "1", "", [], [1], (), (1,), {}, {1: 1}, -MOST)


def filled(many, runs=RUNS):
    """A store with so many names."""
    store = Store()
    for name in NAMES[:many]:
        store.put(name, runs)
    return store


def state(store):
    """All that can be asked of a store."""
    trees = tuple(store.tree(name) for name in store.names)
    return store.names, trees, store.changes, len(store), store.cost()


class StoreCase(unittest.TestCase):
    def refuse(self, store, error, values, call):
        """The call raises just this error, with these very values, and changes nothing."""
        before = state(store)
        with self.assertRaises(error) as caught:
            call()
        self.assertIs(type(caught.exception), error)
        attributes = tuple(vars(caught.exception).values())
        self.assertEqual(len(attributes), len(values))
        for attribute, value in zip(attributes, values):
            self.assertIs(attribute, value)
        self.assertEqual(state(store), before)


class ExamplesTest(unittest.TestCase):
    def test_example(self):
        store = Store()
        store.put("a", ((5, 2), (7, 1)))
        store.splice("a", 1, 2, ((8, 1),), to="b")
        self.assertEqual(
            [store.names, store.tree("b"), store.difference("a", "b"), store.cost(), store.written()],
            [("a", "b"), ("block", (5, 8, 7)), 1, 3, "a 5^2 7\nb 5 8 7"],
        )
        self.assertEqual(
            [store.undo(), store.names, store.changes, Store.read("a 5^2 7") == store, Store.MOST],
            [None, ("a",), 1, True, 60],
        )


class EmptyTest(StoreCase):
    def test_empty_store(self):
        store = Store()
        self.assertEqual([store.names, store.changes, store.cost(), store.written(), len(store)], [(), 0, 0, "", 0])
        self.assertEqual([Store.MOST, store.MOST, type(Store.MOST)], [60, 60, int])
        self.assertEqual([Store.read(""), Store.read("").copy(), store.copy()], [store, store, store])
        self.refuse(store, NothingToUndo, (), store.undo)
        self.refuse(store, NoName, ("a",), lambda: store.tree("a"))

    def test_stores_are_not_led_by_each_other(self):
        one, other = Store(), Store()
        one.put("a", RUNS)
        self.assertEqual([one.names, other.names, other.changes], [("a",), (), 0])

    def test_empty_sequence(self):
        store = Store()
        store.put("a", ())
        self.assertEqual([store.names, store.tree("a"), store.cost(), store.written()], [("a",), None, 0, "a -"])
        store.splice("a", 0, 0, (), to="b")
        store.part("a", 0, 0, to="c")
        store.concat("a", "b", to="d")
        self.assertEqual([store.tree(name) for name in store.names], [None] * 4)
        self.assertEqual([store.difference("a", "d"), Store.read("a -\nb -\nc -\nd -") == store], [None, True])
        for times in (1, 2, MOST):
            with self.assertRaises(TooLong) as caught:
                store.repeat("a", times, to="e")
            self.assertEqual(caught.exception.limit, 40)
        self.assertEqual(store.names, ("a", "b", "c", "d"))
        store.drop("a")
        self.assertEqual([store.undo(), store.tree("a"), store.names], [None, None, ("a", "b", "c", "d")])


class NamesTest(StoreCase):
    def test_names(self):
        store = Store()
        for name in ("a", "z", "ab", "abcdefgh", "zzzzzzzz", "qwertyui", "mnopqrst"):
            store.put(name, RUNS)
            self.assertEqual(store.tree(name), tree_of(RUNS))
        self.assertEqual(store.names, ("a", "ab", "abcdefgh", "mnopqrst", "qwertyui", "z", "zzzzzzzz"))

    def test_values_that_are_no_names(self):
        store = filled(3)
        for value in (*NO_NAMES, *reference.STRANGE_VALUES, *reference.deep_values()):
            if not plain.is_name(value):
                self.refuse(store, BadName, (value,), lambda: store.put(value, RUNS))
                self.refuse(store, BadName, (value,), lambda: store.splice("aa", 0, 1, RUNS, to=value))
                self.refuse(store, BadName, (value,), lambda: store.part("aa", 0, 1, to=value))
                self.refuse(store, BadName, (value,), lambda: store.concat("aa", "ab", to=value))
                self.refuse(store, BadName, (value,), lambda: store.repeat("aa", 2, to=value))
            for call in (lambda: store.splice(value, 0, 1, RUNS, to="b"), lambda: store.part(value, 0, 1, to="b"),
                         lambda: store.concat(value, "aa", to="b"), lambda: store.concat("aa", value, to="b"),
                         lambda: store.repeat(value, 2, to="b"), lambda: store.drop(value), lambda: store.tree(value),
                         lambda: store.difference(value, "aa"), lambda: store.difference("aa", value)):
                self.refuse(store, NoName, (value,), call)

    def test_names_that_are_not_kept(self):
        store = filled(3)
        store.put("gone", RUNS)
        store.drop("gone")
        for name in ("gone", "ad", "a", "zzzzzzzz"):
            for call in (lambda: store.tree(name), lambda: store.drop(name), lambda: store.part(name, 0, 0, to=name)):
                self.refuse(store, NoName, (name,), call)

    def test_the_first_name_that_is_not_kept(self):
        store = filled(2)
        for one, other, missing in (("x", "y", "x"), ("y", "x", "y"), ("aa", "x", "x"), ("x", "aa", "x"), ("x", 5, "x")):
            self.refuse(store, NoName, (missing,), lambda: store.difference(one, other))
            self.refuse(store, NoName, (missing,), lambda: store.concat(one, other, to="aa"))
            self.refuse(store, NoName, (missing,), lambda: store.concat(one, other, to=5))


class ValuesTest(StoreCase):
    def test_values_that_are_no_runs(self):
        store = filled(2)
        for value in (*reference.STRANGE_VALUES, *reference.deep_values(), None, 5, [], [(5, 1)], ((5, 1), (5, 1)), ((5, 0),),
                      ([5, 1],), ((5, True),), "5", WIDE + ((0, 1),), ((5, LARGE + 1),), ((10 ** 9 + 1, 1),)):
            self.refuse(store, BadRuns, (value,), lambda: store.put("b", value))
            self.refuse(store, BadRuns, (value,), lambda: store.put("aa", value))
            self.refuse(store, BadRuns, (value,), lambda: store.splice("aa", 0, 1, value, to="b"))
        store.put("b", WIDE)
        store.splice("b", 0, 300, WIDE[:-1], to="c")
        self.assertEqual([run_count(store.tree("b")), run_count(store.tree("c"))], [300, 299])

    def test_values_that_bound_nothing(self):
        store = filled(2)
        for value in (*reference.STRANGE_VALUES, *reference.deep_values(), None, 4, [0], "0"):
            for start, stop in ((value, 3), (0, value), (value, value), (value, 4), (-1, value)):
                self.refuse(store, NoRange, (start, stop), lambda: store.part("aa", start, stop, to="b"))
                self.refuse(store, NoRange, (start, stop), lambda: store.splice("aa", start, stop, RUNS, to="b"))
        for start, stop in ((0, 4), (2, 1), (-1, 0), (4, 4), (True, 1), (0, True)):
            self.refuse(store, NoRange, (start, stop), lambda: store.part("aa", start, stop, to="b"))

    def test_values_that_are_no_times(self):
        store = filled(2)
        store.put("wide", WIDE)
        store.put("none", ())
        strange = [value for value in reference.STRANGE_VALUES if value != 10 ** 9 + 1]
        for value in (*NO_TIMES, *strange, *reference.deep_values()):
            for name in ("aa", "wide", "none"):
                self.refuse(store, BadTimes, (value,), lambda: store.repeat(name, value, to="b"))
                self.refuse(store, BadTimes, (value,), lambda: store.repeat(name, value, to=name))

    def test_arguments_stay(self):
        values = [[(5, 1)], {"a": [1]}, ([5, 1],), {}, []]
        before, store = copy.deepcopy(values), filled(1)
        for one, other in itertools.product(values, repeat=2):
            for call in (lambda: store.put(one, other), lambda: store.put("b", one), lambda: store.drop(one),
                         lambda: store.splice("aa", one, other, RUNS, to="b"), lambda: store.splice("aa", 0, 1, one, to=other),
                         lambda: store.part("aa", one, other, to="b"), lambda: store.part(one, 0, 1, to=other),
                         lambda: store.concat(one, other, to="b"), lambda: store.repeat("aa", one, to="b"),
                         lambda: store.repeat(one, 2, to=other), lambda: store.tree(one), lambda: Store.read(one),
                         lambda: store.difference(one, other)):
                self.assertRaises(BlockError, call)
        self.assertEqual([values, state(store)], [before, state(filled(1))])


class OrderTest(unittest.TestCase):
    """Of several errors, the one that is listed first."""

    def stores(self):
        """The same in a store and in a plain one: 59 or 60 names, among them versions of 0, 41, 300 and 301 runs."""
        for many in (59, 60):
            store, other = Store(), plain.PlainStore()
            for one in (store, other):
                one.put("aa", RUNS)
                one.put("none", ())
                one.put("many", WIDE[:41])
                one.put("wide", WIDE)
                one.put("three", ((1, 1), (2, 1), (1, 1)))
                one.repeat("three", 150, to="long")
                for name in NAMES[1:many - 5]:
                    one.put(name, RUNS)
            assert len(store) == many and run_count(store.tree("long")) == 301
            yield store, other

    def check(self, store, other, do):
        found, right = plain.outcome(lambda: do(store)), plain.outcome(lambda: do(other))
        self.assertEqual(found, right)
        self.assertEqual([store.names, store.changes], [other.names, other.changes])
        if found[0] == "returned" and found[1] is None:
            for one in (store, other):
                one.undo()
        return found[0]

    def test_orders(self):
        names, tos = ("aa", "none", "many", "wide", "long", "no", "NO", 7), ("aa", "ab", "new", "NEW", [])
        seen = set()
        for store, other in self.stores():
            for name, to in itertools.product(names, tos):
                for start, stop in ((0, 0), (0, 1), (1, 3), (2, 1), (0, 10 ** 70), (None, 0)):
                    seen.add(self.check(store, other, lambda one: one.part(name, start, stop, to=to)))
                    for runs in ((), ((9, 1),), WIDE, ((9, 0),)):
                        seen.add(self.check(store, other, lambda one: one.splice(name, start, stop, runs, to=to)))
                for another in names:
                    seen.add(self.check(store, other, lambda one: one.concat(name, another, to=to)))
                for times in (1, 3, 0, True, MOST + 1, "2"):
                    seen.add(self.check(store, other, lambda one: one.repeat(name, times, to=to)))
            for name, runs in itertools.product((*names, *tos), ((), RUNS, WIDE, WIDE + ((0, 1),), None)):
                seen.add(self.check(store, other, lambda one: one.put(name, runs)))
        self.assertEqual(
            seen, {"returned", "NoName", "BadName", "BadRuns", "NoRange", "TooLong", "TooMany", "BadTimes"})


class MostTest(StoreCase):
    def test_60_and_61_names(self):
        store = filled(60)
        self.assertEqual([len(store), len(store.names), store.changes], [60, 60, 60])
        for name in (NAMES[60], "new", "abcdefgh"):
            for call in (lambda: store.put(name, RUNS), lambda: store.put(name, ()),
                         lambda: store.splice("aa", 0, 1, RUNS, to=name), lambda: store.part("aa", 0, 1, to=name),
                         lambda: store.concat("aa", "ab", to=name), lambda: store.repeat("aa", 2, to=name)):
                with self.assertRaises(TooMany) as caught:
                    call()
                self.assertEqual(vars(caught.exception), {"limit": 60})
        self.assertEqual([len(store), store.changes], [60, 60])

    def test_a_name_that_is_kept_already(self):
        store = filled(60)
        store.put("aa", ((1, 1),))
        store.splice("aa", 0, 0, RUNS, to="ab")
        store.part("aa", 0, 1, to="ac")
        store.concat("aa", "ab", to="aa")
        store.repeat("ac", 5, to="ad")
        self.assertEqual([store.tree(name) for name in ("aa", "ab", "ac", "ad")],
                         [tree_of(((1, 1), (5, 2), (7, 1), (1, 1))), tree_of(RUNS + ((1, 1),)), 1, ("run", 1, 5)])
        self.assertEqual([len(store), store.changes], [60, 65])

    def test_again_when_one_was_dropped_or_taken_back(self):
        store = filled(60)
        store.drop("ab")
        store.put("new", RUNS)
        self.assertEqual([len(store), "new" in store.names, "ab" in store.names], [60, True, False])
        self.assertRaises(TooMany, store.put, "ab", RUNS)
        store.undo()
        store.put("ab", RUNS)
        self.assertRaises(TooMany, store.put, "new", RUNS)
        self.assertEqual([len(store), store.changes], [60, 62])


class ChangesTest(StoreCase):
    def test_changes_return_none(self):
        store = Store()
        self.assertEqual(
            [store.put("a", RUNS), store.splice("a", 0, 1, (), to="b"), store.part("a", 0, 1, to="c"),
             store.concat("a", "b", to="d"), store.repeat("a", 2, to="e"), store.drop("a"), store.undo()],
            [None] * 7,
        )

    def test_a_change_that_made_nothing_different_is_one(self):
        store = filled(2)
        before = state(store)[:2]
        store.put("aa", RUNS)
        store.splice("aa", 1, 2, ((5, 1),), to="aa")
        store.part("aa", 0, 3, to="ab")
        store.repeat("aa", 1, to="ab")
        store.put("ab", RUNS)
        self.assertEqual([state(store)[:2], store.changes], [before, 7])
        for left in range(6, -1, -1):
            store.undo()
            self.assertEqual(store.changes, left)
        self.assertEqual(store, Store())
        self.refuse(store, NothingToUndo, (), store.undo)

    def test_undo_is_no_change(self):
        store = Store()
        store.put("a", ((1, 1),))
        store.put("a", ((2, 1),))
        store.undo()
        self.assertEqual([store.tree("a"), store.changes], [1, 1])
        store.put("a", ((3, 1),))
        store.undo()
        self.assertEqual([store.tree("a"), store.changes], [1, 1])
        store.undo()
        self.assertEqual([store.names, store.changes], [(), 0])
        self.refuse(store, NothingToUndo, (), store.undo)
        store.put("b", ((4, 1),))
        self.assertEqual([store.names, store.changes], [("b",), 1])

    def test_a_call_that_raised_is_no_change(self):
        store = filled(60)
        for call in (lambda: store.put("A", RUNS), lambda: store.put("new", RUNS), lambda: store.drop("new"),
                     lambda: store.splice("aa", 0, 9, RUNS, to="ab"), lambda: store.repeat("aa", 0, to="ab")):
            self.assertRaises(BlockError, call)
        self.assertEqual(store.changes, 60)
        store.undo()
        self.assertEqual(store.names, NAMES[:59])

    def test_each_kind_is_taken_back(self):
        store = Store()
        store.put("a", WIDE[:200])
        store.put("b", RUNS)
        for change in (lambda: store.put("a", RUNS), lambda: store.put("c", RUNS), lambda: store.drop("a"),
                       lambda: store.splice("a", 3, 9, RUNS, to="a"), lambda: store.splice("a", 3, 9, (), to="c"),
                       lambda: store.part("a", 3, 9, to="a"), lambda: store.part("a", 0, 2, to="b"),
                       lambda: store.concat("a", "b", to="b"), lambda: store.concat("a", "b", to="c"),
                       lambda: store.repeat("b", MOST, to="b"), lambda: store.repeat("b", 2, to="c")):
            before = state(store)
            change()
            after = state(store)
            self.assertNotEqual(after[:2], before[:2])
            self.assertEqual(store.changes, before[2] + 1)
            store.undo()
            self.assertEqual(state(store), before)
            change()
            self.assertEqual(state(store), after)
            store.undo()

    def test_a_dropped_name_comes_back_with_its_tree(self):
        store = filled(3, WIDE)
        store.drop("ab")
        self.assertEqual(store.names, ("aa", "ac"))
        store.undo()
        self.assertEqual([store.names, store.tree("ab"), store.changes], [("aa", "ab", "ac"), tree_of(WIDE), 3])


class FunctionsTest(unittest.TestCase):
    def test_far_too_long(self):
        store = Store()
        store.put("a", ((1, 1), (2, 1)))
        store.repeat("a", MOST, to="b")
        store.repeat("a", MOST - 1, to="c")
        self.assertEqual(store.tree("b"), ("run", ("block", (1, 2)), MOST))
        self.assertEqual([store.difference("b", "c"), store.difference("a", "b"), store.cost()], [2 * MOST - 2, 2, 3])
        for call in (lambda: store.part("b", 0, 2, to="d"), lambda: store.splice("b", 0, 2, (), to="d"),
                     lambda: store.concat("a", "b", to="d"), lambda: store.concat("b", "a", to="d"), store.written):
            with self.assertRaises(TooLong) as caught:
                call()
            self.assertEqual(caught.exception.limit, 300)
        with self.assertRaises(TooLong) as caught:
            store.repeat("b", 1, to="d")
        self.assertEqual([caught.exception.limit, store.names, store.changes], [40, ("a", "b", "c"), 3])
        store.drop("b")
        store.undo()
        self.assertEqual(element_at(store.tree("b"), 10 ** 17), 1)

    def test_40_and_41_runs(self):
        store = Store()
        store.put("a", tuple((at, 2) for at in range(40)))
        store.put("b", tuple((at, 2) for at in range(41)))
        store.repeat("a", 10 ** 18, to="c")
        self.assertEqual(store.tree("c"), repeated(tuple((at, 2) for at in range(40)), MOST))
        for times in (1, 2, MOST):
            with self.assertRaises(TooLong) as caught:
                store.repeat("b", times, to="c")
            self.assertEqual(caught.exception.limit, 40)
        store.repeat("a", 1, to="a")
        self.assertEqual([store.tree("a"), store.changes], [tree_of(tuple((at, 2) for at in range(40))), 4])

    def test_to_is_read_as_well(self):
        store = filled(1)
        store.concat("aa", "aa", to="aa")
        self.assertEqual(store.tree("aa"), tree_of(RUNS + RUNS))
        store.repeat("aa", 2, to="aa")
        self.assertEqual(store.tree("aa"), tree_of(RUNS * 4))
        store.part("aa", 1, 4, to="aa")
        store.splice("aa", 0, 1, ((9, 9),), to="aa")
        self.assertEqual([store.tree("aa"), store.changes], [tree_of(((9, 9), (7, 1), (5, 1))), 5])

    def test_cost(self):
        store = Store()
        for number, runs in enumerate(reference.many_runs(100, 20, 60)):
            store.put(NAMES[number], runs)
        trees = [store.tree(name) for name in store.names]
        self.assertEqual(store.cost(), cost_of(tuple(trees)))
        self.assertEqual(store.cost(), len(set().union(*map(reference.inner_nodes, trees))))

    def test_versions_share_nearly_all(self):
        store = Store()
        store.put("a", tuple((at * 7 % 41, 1) for at in range(290)))
        cost, rows = store.cost(), 12
        for number, name in enumerate(NAMES[:59]):
            store.splice("a", number, number + 1, ((1000 + number, 1),), to=name)
        self.assertLessEqual(store.cost(), cost + 59 * 26 * rows)
        self.assertLessEqual(store.cost(), cost + 59 * 40)


class CopyTest(StoreCase):
    def test_the_same_changes_to_take_back(self):
        store = filled(4)
        store.drop("aa")
        store.undo()
        store.splice("ab", 0, 1, (), to="new")
        twin = store.copy()
        self.assertIsInstance(twin, Store)
        self.assertEqual([state(twin), twin == store, twin is store], [state(store), True, False])
        while store.changes:
            store.undo()
            twin.undo()
            self.assertEqual(state(twin), state(store))
        self.refuse(twin, NothingToUndo, (), twin.undo)

    def test_neither_is_led_by_the_other(self):
        for led, other in ((0, 1), (1, 0)):
            stores = [filled(4)]
            stores.append(stores[0].copy())
            before = state(stores[other])
            stores[led].drop("aa")
            stores[led].put("ab", ())
            stores[led].put("new", RUNS)
            self.assertEqual(state(stores[other]), before)
            for _ in range(7):
                stores[led].undo()
            self.assertEqual([state(stores[other]), len(stores[led])], [before, 0])
            stores[other].undo()
            self.assertEqual([len(stores[other]), stores[other].changes], [3, 3])

    def test_copies_of_copies(self):
        store = filled(2)
        twins = [store]
        for name in ("x", "y", "z"):
            twins.append(twins[-1].copy())
            twins[-1].put(name, RUNS)
        self.assertEqual([twin.changes for twin in twins], [2, 3, 4, 5])
        self.assertEqual([len(twin) for twin in twins], [2, 3, 4, 5])
        twins[3].undo()
        twins[3].undo()
        self.assertEqual([twins[3] == twins[1], twins[3] == twins[2], len(twins[2])], [True, False, 4])


class EqualTest(unittest.TestCase):
    def test_names_and_trees_alone(self):
        one, other = Store(), Store()
        one.put("a", RUNS)
        other.put("b", WIDE)
        other.put("a", WIDE)
        other.splice("a", 0, 300, RUNS, to="a")
        other.drop("b")
        self.assertIs(one == other, True)
        self.assertIs(one != other, False)
        self.assertNotEqual(one.changes, other.changes)
        other.put("b", RUNS)
        one.put("c", RUNS)
        self.assertEqual([one == other, one != other], [False, True])
        one.drop("c")
        one.put("b", ((5, 2), (8, 1)))
        self.assertIs(one == other, False)
        one.put("b", RUNS)
        self.assertIs(one == other, True)

    def test_the_order_of_putting(self):
        one, other = Store(), Store()
        for name in NAMES[:60]:
            one.put(name, RUNS)
        for name in NAMES[59::-1]:
            other.put(name, RUNS)
        self.assertEqual([one == other, one.names == other.names, one.written() == other.written()], [True] * 3)

    def test_nothing_else(self):
        store = Store()
        for value in (None, 0, False, "", (), [], {}, {"aa": tree_of(RUNS)}, Store, "aa 5^2 7", *reference.STRANGE_VALUES):
            for one in (store, filled(1)):
                self.assertEqual([one == value, value == one, one != value], [False, False, True])

    def test_empty_sequence_and_no_name(self):
        one, other = Store(), Store()
        one.put("a", ())
        self.assertEqual([one == other, len(one), len(other)], [False, 1, 0])


class WrittenTest(unittest.TestCase):
    def refuse(self, text):
        with self.assertRaises(BadText) as caught:
            Store.read(text)
        self.assertIs(caught.exception.text, text)

    def test_written_and_read(self):
        chance = random.Random(101)
        all_runs = list(reference.many_runs(102, 60))
        for many in (0, 1, 2, 17, 59, 60):
            store, versions = Store(), {}
            for name in chance.sample(NAMES[:60], many):
                versions[name] = all_runs[len(versions)]
                store.put(name, versions[name])
            text = store.written()
            self.assertIs(type(text), str)
            self.assertEqual(text, "\n".join(f"{name} {plain.show_runs(versions[name])}" for name in sorted(versions)))
            again = Store.read(text)
            self.assertIsInstance(again, Store)
            self.assertEqual([again == store, again.changes, again.names, again.written()], [True, 0, store.names, text])
            self.assertRaises(NothingToUndo, again.undo)

    def test_longer_than_any_text_that_is_passed_in(self):
        store = filled(60, tuple((at, LARGE) for at in range(300)))
        self.assertGreater(len(store.written()), 10 ** 6)
        self.assertEqual(Store.read(store.written()), store)

    def test_goes_on_as_the_one_that_wrote_it(self):
        store = Store()
        store.put("a", WIDE[:20])
        store.part("a", 3, 9, to="b")
        again = Store.read(store.written())
        for one in (store, again):
            one.splice("a", 0, 5, RUNS, to="c")
            one.repeat("b", MOST, to="d")
            one.drop("a")
            one.undo()
            one.concat("a", "c", to="a")
        self.assertEqual([state(again)[:2], again.changes, store.changes], [state(store)[:2], 3, 5])
        again.drop("d")
        store.drop("d")
        self.assertEqual(again.written(), store.written())

    def test_300_and_301_runs(self):
        store = Store()
        store.put("b", WIDE)
        self.assertEqual(store.written(), "b " + " ".join(["0", "1"] * 150))
        for name, times in (("a", 150), ("c", 150), ("c", MOST)):
            other = store.copy()
            other.put("x", ((1, 1), (2, 1), (1, 1)))
            other.repeat("x", times, to=name)
            with self.assertRaises(TooLong) as caught:
                other.written()
            self.assertEqual([caught.exception.limit, other.changes], [300, 3])
            other.drop(name)
            self.assertEqual(other.written(), store.written() + "\nx 1 2 1")
        self.assertEqual(Store.read("a " + " ".join(["1", "2"] * 150)).tree("a"), ("run", ("block", (1, 2)), 150))
        self.refuse("a " + " ".join(["1", "2"] * 150) + " 1")

    def test_60_and_61_lines(self):
        lines = [f"{name} 5" for name in NAMES]
        store = Store.read("\n".join(lines[:60]))
        self.assertEqual([len(store), store.names], [60, NAMES[:60]])
        self.assertRaises(TooMany, store.put, "zz", RUNS)
        self.refuse("\n".join(lines))
        self.refuse("\n".join(lines[:60]) + "\n")
        self.refuse("\n".join([*lines[:60], "zz 5", "zzz 5"] + [f"zzz{one}{other} 5" for one, other in zip("abcd", "efgh")]))

    def test_texts_of_no_store(self):
        for text in (
            " ", "\n", "a", "a ", "a\n", " a 5", "a  5", "a 5 ", "a 5\n", "\na 5", "a 5\n\nb 6", "a 5\nb", "a 5\nb ", "a 5\nb 6\n",
            "a 5\na 6", "a 5\na 5", "b 5\na 6", "a 5\nc 6\nb 7", "A 5", "a1 5", "abcdefghi 5", " 5", "5", "5 a", "- 5", "a --",
            "a 5 5", "a 05", "a 5^1", "a 5^0", "a 5^2 5", "a (1 2)", "a 1000000001", "a 5\r\nb 6", "a 5\rb 6", "a\t5", "a 5\tb 6",
            "a 5 b 6", "a 5\n b 6", "a 5 \nb 6", "a -5", "a - 5", "a 5 -", "\u00e4 5", "a 5\u2028b 6", "a 5\x0bb 6", "ab 5\na 6",
        ):
            self.refuse(text)

    def test_no_strings(self):
        for value in (*reference.STRANGE_VALUES, *reference.deep_values(), None, 5, b"a 5", ["a 5"], ("a 5",), {"a": 5}, Store()):
            if not (type(value) is str and value == ""):
                self.refuse(value)

    def test_one_character_otherwise(self):
        seen = {True: 0, False: 0}
        text = "a 5^2 7\nb -\nbc 12^10 1\nz 3"
        for at in range(len(text) + 1):
            for sign in ("", *"ab1 -^\n05AZ\t"):
                for other in (text[:at] + sign + text[at:], text[:at] + sign + text[at + 1:]):
                    versions = plain.read_lines(other)
                    seen[versions is not None] += 1
                    if versions is None:
                        self.refuse(other)
                    else:
                        store = Store.read(other)
                        self.assertEqual([store.names, store.written()], [tuple(sorted(versions)), other])
                        for name, runs in versions.items():
                            self.assertEqual(store.tree(name), reference.tree(runs))
        self.assertGreater(min(seen.values()), 100)

    def test_long_texts(self):
        for text in (20000 * "a", 20000 * "\n", 20000 * " ", 6000 * "a 5\n", "a " + 19000 * "1", "a 1^" + 19000 * "1",
                     "a " + 19000 * "(", "a " + 6000 * "1 2 ", 19000 * "a" + " 5", 10000 * "1 ", 5000 * "- \n"):
            self.refuse(text)


class LedTest(unittest.TestCase):
    """A store and plain lists of elements, led by the same changes."""

    def check(self, store, other):
        self.assertEqual([store.names, store.changes, len(store)], [other.names, other.changes, len(other.names)])
        for name in other.names:
            self.assertEqual(store.tree(name), other.tree(name))
        self.assertEqual(store.cost(), other.cost())
        self.assertEqual(plain.outcome(store.written), plain.outcome(other.written))

    def some_change(self, chance, other):
        """A change by chance, that fits now and then: a name of a method, its arguments and those by name."""
        names = ("a", "b", "c", "d", "e")
        name, another, to = chance.choices((*names, *other.names, *other.names), k=3)
        if chance.random() < 0.05:
            to = chance.choice(("A", "", None, [], "abcdefghi"))
        size = len(other.versions.get(name, ()))
        start, stop = sorted((chance.randint(0, size), chance.randint(0, size)))
        stop += chance.random() < 0.05
        runs = reference.some_runs(chance, chance.choice((0, 1, 2, 9, 50)), (0, 1, 2, 33), (1, 1, 2, 5))
        times = chance.choice((1, 2, 3, 5, 20)) if size < 60 else chance.choice((0, True, 1))
        return chance.choice((
            ("put", (name, runs), {}), ("splice", (name, start, stop, runs), {"to": to}),
            ("splice", (name, start, start, runs[:1]), {"to": to}), ("part", (name, start, stop), {"to": to}),
            ("concat", (name, another), {"to": to}), ("repeat", (name, times), {"to": to}), ("drop", (name,), {}),
            ("undo", (), {}), ("undo", (), {}), ("difference", (name, another), {}), ("tree", (name,), {}),
        ))

    def test_led_by_the_same_changes(self):
        seen = {}
        for seed in range(12):
            chance = random.Random(1000 + seed)
            store, other = Store(), plain.PlainStore()
            for step in range(60):
                method, values, by_name = self.some_change(chance, other)
                found = plain.outcome(lambda: getattr(store, method)(*values, **by_name))
                right = plain.outcome(lambda: getattr(other, method)(*values, **by_name))
                self.assertEqual(found, right, (seed, step, method, values))
                seen[method, found[0]] = seen.get((method, found[0]), 0) + 1
                if step % 5 == 0:
                    self.check(store, other)
            while other.changes:
                store.undo()
                other.undo()
                self.check(store, other)
        for method in ("put", "splice", "part", "concat", "repeat", "drop", "undo", "difference", "tree"):
            self.assertGreater(seen[method, "returned"], 5)

    def test_copies_and_texts_along_the_way(self):
        for seed in range(6):
            chance = random.Random(2000 + seed)
            store, other = Store(), plain.PlainStore()
            kept = []
            for step in range(50):
                method, values, by_name = self.some_change(chance, other)
                for one in (store, other):
                    plain.outcome(lambda: getattr(one, method)(*values, **by_name))
                if step % 10 == 9:
                    kept.append((store.copy(), copy.deepcopy(other)))
                    if plain.outcome(store.written)[0] == "returned":
                        again = Store.read(store.written())
                        self.assertEqual([again == store, again.changes], [True, 0])
            for twin, plain_twin in kept:
                self.check(twin, plain_twin)
                while plain_twin.changes:
                    twin.undo()
                    plain_twin.undo()
                self.check(twin, plain_twin)


class CallsTest(unittest.TestCase):
    def test_by_name(self):
        store = Store()
        store.put(runs=((1, 1), (2, 1)), name="a")
        store.splice(to="b", runs=((3, 1),), stop=1, start=0, name="a")
        store.part(to="c", stop=2, start=1, name="a")
        store.concat(to="d", other="b", one="a")
        store.repeat(to="e", times=2, name="a")
        self.assertEqual([text_of(store.tree(name=name)) for name in store.names],
                         ["(1 2)", "(3 2)", "2", "((1 2) (3 2))", "(1 2)^2"])
        self.assertEqual(store.difference(other="e", one="a"), 2)
        store.drop(name="e")
        self.assertEqual(Store.read(text="a 1 2\nb 3 2\nc 2\nd 1 2 3 2"), store)

    def test_to_is_passed_by_name_only(self):
        store = filled(1)
        for call in (lambda: store.splice("aa", 0, 1, (), "b"), lambda: store.part("aa", 0, 1, "b"),
                     lambda: store.concat("aa", "aa", "b"), lambda: store.repeat("aa", 2, "b")):
            self.assertRaises(TypeError, call)
        self.assertEqual(state(store), state(filled(1)))

    def test_kinds_of_results(self):
        store = filled(3)
        self.assertEqual([type(store.names), type(store.changes), type(store.cost()), type(store.written()), type(len(store))],
                         [tuple, int, int, str, int])
        self.assertEqual([type(store == store), type(store.tree("aa")), type(store.difference("aa", "ab"))],
                         [bool, tuple, type(None)])
        self.assertTrue(is_tree(store.tree("aa")))
        self.assertEqual(size_of(store.tree("aa")), 3)

    def test_names_and_changes_are_properties(self):
        for name in ("names", "changes"):
            self.assertIsInstance(vars(Store)[name], property)
            self.assertRaises(AttributeError, setattr, Store(), name, 5)
        self.assertIsInstance(vars(Store)["read"], classmethod)

    def test_equal_calls_are_equal(self):
        store = filled(3, WIDE)
        for call in (lambda: store.names, store.written, store.cost, lambda: store.tree("aa"), store.copy,
                     lambda: store.difference("aa", "ab"), lambda: Store.read("a 5"), lambda: state(store)):
            self.assertEqual(call(), call())


if __name__ == "__main__":
    unittest.main()
