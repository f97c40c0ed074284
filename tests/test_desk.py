import copy
import random
import unittest

import plain
import reference
from localblocks.desk import Desk
from localblocks.errors import (BadLine, BadTimes, BlockError, NoIndex, NoName, NoRange, NothingToUndo, TooLong, TooMany)
from localblocks.store import Store

LARGE = 10 ** 60
MOST = 10 ** 18

# A line of each form, in an order in which a desk can be told them.
LINES = (
    "put a 1 2 1 2", "put abcdefgh 5^2 7", "splice a 2 4 b 3", "part a 1 3 c", "join a b d", "repeat a 3 e", "drop e", "undo",
    "show a", "at a 0", "size a", "rows a", "diff a b", "cost", "names",
)


def told(*lines):
    """A desk that was told some lines."""
    desk = Desk()
    for line in lines:
        desk.say(line)
    return desk


def state(desk):
    """All that a desk answers about its versions; how many changes there are shows when they are taken back."""
    names = desk.say("names")
    return names, desk.say("cost"), [desk.say("show " + name) for name in names.split(" ") if name != "-"]


class DeskCase(unittest.TestCase):
    def refuse(self, desk, line, error, **values):
        before = state(desk)
        with self.assertRaises(error) as caught:
            desk.say(line)
        self.assertIs(type(caught.exception), error)
        self.assertEqual(vars(caught.exception), values)
        self.assertEqual(state(desk), before)

    def bad(self, desk, line):
        before = state(desk)
        with self.assertRaises(BadLine) as caught:
            desk.say(line)
        self.assertIs(type(caught.exception), BadLine)
        self.assertIs(caught.exception.line, line)
        self.assertEqual(state(desk), before)


class ExamplesTest(unittest.TestCase):
    def test_example(self):
        desk = Desk()
        self.assertEqual(
            [desk.say("put a 1 2 1 2"), desk.say("splice a 2 4 b 3"), desk.say("show a"), desk.say("show b"),
             desk.say("diff a b"), desk.say("size a"), desk.say("names")],
            ["ok", "ok", "(1 2)^2", "(1 2 3)", "2", "4", "a b"],
        )


class AnswersTest(DeskCase):
    def test_each_form(self):
        desk = Desk()
        for line, answer in (
            ("names", "-"), ("cost", "0"), ("put a 1 2 1 2", "ok"), ("put b -", "ok"), ("show a", "(1 2)^2"), ("show b", "-"),
            ("size a", "4"), ("size b", "0"), ("rows a", "2"), ("rows b", "0"), ("at a 0", "1"), ("at a 3", "2"),
            ("diff a a", "-"), ("diff a b", "0"), ("diff b b", "-"), ("cost", "2"), ("names", "a b"), ("join a a c", "ok"),
            ("show c", "(1 2)^4"), ("diff c a", "4"), ("part c 1 6 b", "ok"), ("show b", "((2 1 2) (1 2))"), ("rows b", "3"),
            ("repeat b 2 d", "ok"), ("size d", "10"), ("drop c", "ok"), ("names", "a b d"), ("undo", "ok"), ("names", "a b c d"),
            ("splice d 0 10 d 5^9", "ok"), ("show d", "5^9"), ("splice d 1 1 d -", "ok"), ("show d", "5^9"), ("rows d", "1"),
            ("put e 7", "ok"), ("show e", "7"), ("size e", "1"), ("rows e", "1"), ("at e 0", "7"),
            (f"put f 0^{LARGE} 1000000000^{LARGE}", "ok"), ("size f", f"{2 * LARGE}"), (f"at f {10 ** 39}", "0"),
            ("undo", "ok"), ("undo", "ok"), ("names", "a b c d"), ("undo", "ok"), ("show d", "5^9"), ("undo", "ok"),
            ("show d", reference.text(reference.repeated(reference.as_runs((2, 1, 2, 1, 2)), 2))),
        ):
            self.assertEqual(desk.say(line), answer, line)

    def test_far_too_long(self):
        desk = told("put a 1 2 1 3", f"repeat a {MOST} b", "put c 1 2", f"repeat c {MOST} c", f"repeat a {MOST - 1} d")
        self.assertEqual([desk.say("size b"), desk.say("size c")], [f"{4 * MOST}", f"{2 * MOST}"])
        self.assertEqual([desk.say("show c"), desk.say(f"at b {4 * MOST - 1}"), desk.say(f"at b {10 ** 17 + 1}")],
                         [f"(1 2)^{MOST}", "3", "2"])
        tree = reference.repeated(((1, 1), (2, 1), (1, 1), (3, 1)), MOST)
        self.assertEqual(desk.say("show b"), reference.text(tree))
        self.assertEqual([desk.say("diff b d"), desk.say("diff b c"), desk.say("diff b b"), desk.say("diff a b")],
                         [f"{4 * MOST - 4}", "3", "-", "4"])
        self.assertEqual(desk.say("names"), "a b c d")
        trees = [reference.repeated(((1, 1), (2, 1)), MOST), reference.tree(((1, 1), (2, 1), (1, 1), (3, 1))), tree,
                 reference.repeated(((1, 1), (2, 1), (1, 1), (3, 1)), MOST - 1)]
        self.assertEqual(desk.say("cost"), str(len(set().union(*map(reference.inner_nodes, trees)))))
        for line in ("rows b", "rows c", "part b 0 1 e", "splice b 0 1 e -", "join b a e", "join a b e"):
            self.refuse(desk, line, TooLong, limit=300)
        self.refuse(desk, "repeat b 1 e", TooLong, limit=40)
        self.refuse(desk, f"at b {4 * MOST}", NoIndex, index=4 * MOST)

    def test_300_and_301_runs(self):
        desk = told("put a 1 2", "repeat a 150 b", "put x 1 2 1", "repeat x 150 c")
        self.assertEqual([desk.say("rows b"), desk.say("show b")], ["2", "(1 2)^150"])
        self.refuse(desk, "rows c", TooLong, limit=300)
        self.assertEqual(desk.say("size c"), "450")
        wide = " ".join(["0", "1"] * 150)
        self.assertEqual([desk.say("put w " + wide), desk.say("size w"), desk.say("rows w")], ["ok", "300", "3"])
        self.bad(desk, f"put w {wide} 0")
        self.bad(desk, f"splice a 0 1 b {wide} 0")

    def test_rows(self):
        for runs in reference.many_runs(110, 20):
            desk = told("put a " + plain.show_runs(runs))
            self.assertEqual(desk.say("rows a"), str(len(reference.all_rows(runs))))

    def test_desks_are_not_led_by_each_other(self):
        one, other = told("put a 1"), Desk()
        self.assertEqual([one.say("names"), other.say("names")], ["a", "-"])


class ErrorsTest(DeskCase):
    def test_errors_of_the_store_and_the_functions(self):
        desk = told("put a 1 2 1", "put none -", "put many " + " ".join(["1", "2"] * 20) + " 1")
        for line, error, values in (
            ("show b", NoName, {"name": "b"}), ("drop b", NoName, {"name": "b"}), ("at b 0", NoName, {"name": "b"}),
            ("size b", NoName, {"name": "b"}), ("rows b", NoName, {"name": "b"}), ("diff b c", NoName, {"name": "b"}),
            ("diff a c", NoName, {"name": "c"}), ("diff c a", NoName, {"name": "c"}), ("join a b c", NoName, {"name": "b"}),
            ("join c b c", NoName, {"name": "c"}), ("splice b 0 0 a -", NoName, {"name": "b"}),
            ("part b 9 1 b", NoName, {"name": "b"}), ("repeat b 0 b", NoName, {"name": "b"}),
            ("at a 3", NoIndex, {"index": 3}), ("at none 0", NoIndex, {"index": 0}),
            (f"at a {10 ** 40 - 1}", NoIndex, {"index": 10 ** 40 - 1}),
            ("part a 2 1 b", NoRange, {"start": 2, "stop": 1}), ("part a 0 4 b", NoRange, {"start": 0, "stop": 4}),
            ("splice a 4 4 b 1", NoRange, {"start": 4, "stop": 4}), ("part none 0 1 a", NoRange, {"start": 0, "stop": 1}),
            ("repeat a 0 b", BadTimes, {"times": 0}), (f"repeat a {MOST + 1} b", BadTimes, {"times": MOST + 1}),
            ("repeat none 0 b", BadTimes, {"times": 0}), ("repeat none 1 b", TooLong, {"limit": 40}),
            ("repeat many 2 b", TooLong, {"limit": 40}),
        ):
            self.refuse(desk, line, error, **values)
        self.assertEqual([desk.say("undo"), desk.say("undo"), desk.say("undo")], ["ok"] * 3)
        self.refuse(desk, "undo", NothingToUndo)

    def test_60_and_61_names(self):
        desk = told(*[f"put {one}{other} 1 2" for one in "abcdef" for other in "ghijklmnop"])
        self.assertEqual(len(desk.say("names").split(" ")), 60)
        for line in ("put new 1", "splice ag 0 0 new 1", "part ag 0 1 new", "join ag ag new", "repeat ag 2 new"):
            self.refuse(desk, line, TooMany, limit=60)
        self.assertEqual([desk.say("repeat ag 2 ag"), desk.say("drop ah"), desk.say("put new 1")], ["ok"] * 3)

    def test_bad_line_comes_first(self):
        desk = Desk()
        for line in ("show B", "at b x", "put b 5 5", "splice b 0 1 c 5 5", "diff b", "repeat b -1 c", "undo undo", "drop b c"):
            self.bad(desk, line)
        for line in ("at b 00", "repeat b 01 c", f"at b {10 ** 40}", "join a b", "rows b 5"):
            self.bad(desk, line)


class LinesTest(DeskCase):
    def setUp(self):
        self.desk = told("put a 1 2 1 2", "put b 3", "put abcdefgh 5^2 7", "put e 1")

    def test_any_value(self):
        for value in (None, True, 0, 5, -1, (), [], {}, b"names", ["names"], ("names",), {"names": 1}, ("put", "a", "5"), [[]]):
            before = copy.deepcopy(value)
            self.bad(self.desk, value)
            self.assertEqual(value, before)
        for value in (*reference.STRANGE_VALUES, *reference.deep_values()):
            self.bad(self.desk, value)

    def test_lines_of_no_form(self):
        for line in (
            "", " ", "  ", "\n", "x", "PUT a 1", "Put a 1", "get a", "say names", "names\n", "\nnames", "names ", " names", "names a",
            "cost a", "cost ", "undo a", "undo 1", "undo ", "show", "show ", "show a b", "show A", "show a1", "show abcdefghi",
            "show  a", " show a", "show a ", "show\ta", "show a\n", "drop", "drop a b", "size", "size a 1", "rows", "rows a a",
            "at", "at a", "at 0", "at a b", "at a -1", "at a +1", "at a 1.0", "at a 01", "at a 00", "at a 1 ", "at a  1", "at a 1 2",
            "at a 0x1", "at a 1_0", "at a \u0661", "at a \u00b2", "at 0 a", "diff a", "diff a b c", "diff a  b", "diff a 1", "join a b",
            "join a b c d", "join a 1 c", "repeat a c", "repeat a 2", "repeat a 2 c d", "repeat 2 a c", "repeat a b 2",
            "part a 0 1", "part a 0 c", "part a 0 1 c 5", "part a 0 1 2", "part a c 0 1", "put", "put a", "put a ", "put 5", "put 5 a",
            "put A 5", "put a 5 ", "put a  5", "put  a 5", " put a 5", "put a 5  6", "put a 5 5", "put a 05", "put a 5^1", "put a 5^0",
            "put a (5 6)", "put a 5 a", "put a a 5", "put a - 5", "put a 5 -", "put a --", "put a - ", "put a 1000000001", "put a\t5",
            "put a 5\n", "put a 5\n6", "put a b", "splice a 0 1 b", "splice a 0 1 5", "splice a 0 1 b ", "splice a 0 b 5",
            "splice a 0 1 b 5 5", "splice a 0 1 b  5", "splice a 0 1  b 5", "splice a 0 1 b 5 ", "splice a 0 1 b c 5",
            "splice 0 1 a b 5", "splice a b 0 1 5", "splice a 0 1 2 b 5", "names names", "undo undo", "name", "putt a 5", "put\u00a0a 5",
            "join", "part", "splice", "repeat", "diff", "-", "ok", "NAME", "put NAME RUNS", "show \u00e4", "#", "None",
        ):
            self.bad(self.desk, line)

    def test_numbers_of_40_and_41_digits(self):
        self.desk.say(f"put big 1^{LARGE}")
        for digits in ("1" + 39 * "0", 40 * "9"):
            self.assertEqual(self.desk.say(f"at big {digits}"), "1")
            self.assertEqual(self.desk.say(f"part big 0 {digits} part"), "ok")
            self.assertEqual(self.desk.say("size part"), digits)
            self.assertEqual(self.desk.say(f"splice big {digits} {digits} part 2"), "ok")
            self.refuse(self.desk, f"repeat big {digits} c", BadTimes, times=int(digits))
            self.refuse(self.desk, f"at a {digits}", NoIndex, index=int(digits))
        for digits in ("1" + 40 * "0", 41 * "9", "0" + 40 * "1", 41 * "0", 40 * "0", 4301 * "1", 19000 * "1", 19000 * "0"):
            for line in (f"at big {digits}", f"part big 0 {digits} c", f"part big {digits} 0 c", f"repeat big {digits} c",
                         f"splice big {digits} 1 c 2", f"splice big 0 {digits} c 2"):
                self.bad(self.desk, line)

    def test_names_of_1_8_and_9_letters(self):
        for name in ("a", "z", "abcdefgh", "zzzzzzzz"):
            self.assertEqual(self.desk.say(f"put {name} 1 2"), "ok")
            self.assertEqual([self.desk.say(f"show {name}"), self.desk.say(f"repeat {name} 2 {name}")], ["(1 2)", "ok"])
        for name in ("abcdefghi", "A", "a1", "1", "a-b", "a_", "\u00e9", 19000 * "a"):
            for line in (f"put {name} 1", f"show {name}", f"drop {name}", f"join a {name} b", f"join a b {name}",
                         f"join {name} a b", f"repeat a 2 {name}", f"part a 0 1 {name}", f"splice a 0 1 {name} 5", f"diff a {name}",
                         f"size {name}", f"rows {name}", f"at {name} 0"):
                self.bad(self.desk, line)

    def test_long_lines(self):
        for line in (20000 * " ", 20000 * "a", 5000 * "put ", "put a " + 19000 * "1", "put a 1^" + 19000 * "1", 20000 * "(",
                     "put a " + 9000 * "1 ", "put a " + 19000 * "(", "put a" + 19000 * " " + "1", "show a" + 19000 * " ", 20000 * "\n",
                     "put a " + " ".join(["1", "2"] * 4000), "join " + 9000 * "a " + "a", "undo" + 19000 * " undo"):
            self.bad(self.desk, line)

    def check(self, line):
        """A line, told to a desk and to a plain one that were told the same before."""
        desk, other = Desk(), plain.PlainDesk()
        for ahead in ("put a 1 2 1 2", "put b 3", "put abcdefgh 5^2 7", "put e 1"):
            desk.say(ahead)
            other.say(ahead)
        found, right = plain.outcome(lambda: desk.say(line)), plain.outcome(lambda: other.say(line))
        self.assertEqual(found, right, line)
        self.assertEqual(desk.say("names"), other.say("names"))
        return found[0]

    def test_lines_with_words_left_out_doubled_and_exchanged(self):
        seen = {}
        for line in LINES:
            words = line.split(" ")
            others = [line]
            for at in range(len(words)):
                others += [words[:at] + words[at + 1:], words[:at + 1] + words[at:], words[:at] + [""] + words[at:],
                           words[:at] + ["x"] + words[at + 1:], words[:at] + ["0"] + words[at + 1:], words + [words[at]],
                           words[:at] + ["-"] + words[at + 1:]]
                for second in range(at):
                    others.append([*words[:second], words[at], *words[second + 1:at], words[second], *words[at + 1:]])
            for other in others:
                name = self.check(other if isinstance(other, str) else " ".join(other))
                seen[name] = seen.get(name, 0) + 1
        self.assertGreater(min(seen[name] for name in ("returned", "BadLine", "NoName")), 10, seen)

    def test_one_character_otherwise(self):
        seen = {}
        for line in LINES:
            for at in range(len(line) + 1):
                for sign in ("", *"ab1 -^0\nA"):
                    for other in (line[:at] + sign + line[at:], line[:at] + sign + line[at + 1:]):
                        name = self.check(other)
                        seen[name] = seen.get(name, 0) + 1
        self.assertGreater(min(seen[name] for name in ("returned", "BadLine", "NoName")), 50, seen)


class LedTest(unittest.TestCase):
    """A desk and a plain one over lists of elements, told the same lines."""

    def some_line(self, chance, other):
        names = ("a", "b", "c", "d", *other.store.names, *other.store.names)
        name, another, to = chance.choices(names, k=3)
        size = len(other.store.versions.get(name, ()))
        start, stop = sorted((chance.randint(0, size), chance.randint(0, size)))
        stop += chance.random() < 0.1
        runs = plain.show_runs(reference.some_runs(chance, chance.choice((0, 1, 3, 9, 40)), (0, 1, 2, 33), (1, 1, 2, 5)))
        times = chance.choice((1, 2, 3, 20)) if size < 60 else chance.choice((0, 1, MOST + 1))
        return chance.choice((
            f"put {name} {runs}", f"splice {name} {start} {stop} {to} {runs}", f"splice {name} {start} {start} {to} 7",
            f"part {name} {start} {stop} {to}", f"join {name} {another} {to}", f"repeat {name} {times} {to}", f"drop {name}",
            "undo", "undo", f"show {name}", f"at {name} {start}", f"size {name}", f"rows {name}", f"diff {name} {another}", "cost",
            "names", f"put {name}", f"part {name} {start} {to}", f"join {name} {another} {to} ",
        ))

    def test_told_the_same_lines(self):
        seen = {}
        for seed in range(12):
            chance = random.Random(3000 + seed)
            desk, other = Desk(), plain.PlainDesk()
            for _ in range(150):
                line = self.some_line(chance, other)
                found, right = plain.outcome(lambda: desk.say(line)), plain.outcome(lambda: other.say(line))
                self.assertEqual(found, right, (seed, line))
                word = line.split(" ")[0]
                seen[word, found[0]] = seen.get((word, found[0]), 0) + 1
            while other.store.changes:
                self.assertEqual([desk.say("undo"), other.say("undo")], ["ok", "ok"])
                for line in ("names", "cost"):
                    self.assertEqual(desk.say(line), other.say(line))
            with self.assertRaises(NothingToUndo):
                desk.say("undo")
        for line in LINES:
            self.assertGreater(seen[line.split(" ")[0], "returned"], 5)

    def test_as_a_store_says(self):
        for seed in range(4):
            chance = random.Random(4000 + seed)
            desk, store, other = Desk(), Store(), plain.PlainDesk()
            for _ in range(60):
                line = self.some_line(chance, other)
                plain.outcome(lambda: other.say(line))
                form, values = plain.read_line(line) or ("", ())
                found = plain.outcome(lambda: desk.say(line))
                if form.split(" ")[0] in ("put", "splice", "part", "join", "repeat", "drop", "undo"):
                    right = plain.outcome(lambda: plain.FORMS[form](store, *values))
                    self.assertEqual(found, ("returned", "ok") if right[0] == "returned" else right)
            self.assertEqual(desk.say("names"), " ".join(store.names) or "-")
            self.assertEqual(desk.say("cost"), str(store.cost()))


class CallsTest(unittest.TestCase):
    def test_by_name(self):
        desk = Desk()
        self.assertEqual([desk.say(line="put a 5"), desk.say(line="show a")], ["ok", "5"])
        with self.assertRaises(BadLine) as caught:
            desk.say(line=5)
        self.assertEqual(caught.exception.line, 5)

    def test_equal_calls_are_equal(self):
        desk = told(*LINES[:5])
        for line in ("show a", "at a 1", "size d", "rows d", "diff a b", "cost", "names"):
            answer = desk.say(line)
            self.assertEqual([type(answer), desk.say(line)], [str, answer])

    def test_a_line_that_raised_is_no_change(self):
        desk = told("put a 1", "put a 2")
        for line in ("put a 1 1", "drop b", "part a 0 9 b", "repeat a 0 b", 5, "undo x", "show b"):
            self.assertRaises(BlockError, desk.say, line)
        self.assertEqual([desk.say("undo"), desk.say("show a"), desk.say("undo"), desk.say("names")], ["ok", "1", "ok", "-"])

    def test_asking_is_no_change(self):
        desk = told("put a 1 2", "show a", "at a 1", "size a", "rows a", "diff a a", "cost", "names")
        self.assertEqual(desk.say("undo"), "ok")
        self.assertRaises(NothingToUndo, desk.say, "undo")


if __name__ == "__main__":
    unittest.main()
