import copy
import itertools
import random
import unittest

import reference
from localblocks.errors import BadText
from localblocks.nodes import is_node, level_of, node_from, size_of, text_of

SHORT_SIGNS = "012 ()^"


def number_texts(length):
    digits = ["".join(some) for some in itertools.product("012", repeat=length)]
    return [text for text in digits if text == "0" or text[:1] not in ("", "0")]


def node_texts(length):
    """Map each text of a node with so many of the short signs to (level, base's text), built bottom-up."""
    found = {}
    for bare in range(1, length + 1):
        for text, level in bare_texts(bare):
            if bare == length:
                found[text] = (level, text)
            for count in number_texts(length - bare - 1) if length - bare >= 2 else ():
                if int(count) >= 2:
                    found[text + "^" + count] = (level, text)
    return found


def bare_texts(length):
    """The texts of nodes that are not runs, with their levels."""
    out = [(text, 0) for text in number_texts(length)]
    for one in range(1, length - 3):
        other = length - 3 - one
        for (a, (level, base)), (b, (height, under)) in itertools.product(
                node_texts(one).items(), node_texts(other).items()):
            if level == height and base != under:
                out.append((f"({a} {b})", level + 1))
    return out


def changed_texts(text):
    """Texts with one character less, more or otherwise."""
    signs = "019 ()^-x\n\t+_.\u0661\u00b2"
    for at in range(len(text) + 1):
        yield text[:at] + text[at + 1:]
        for sign in signs:
            yield text[:at] + sign + text[at:]
            yield text[:at] + sign + text[at + 1:]


def some_nodes():
    """Nodes of many forms, also such as are in no tree."""
    chance = random.Random(5)
    floors = [[0, 1, 9, 10, 11, 10 ** 9, 10 ** 9 - 1, 5, 52]]
    for level in range(4):
        floor = floors[-1]
        floor += [("run", node, chance.choice((2, 3, 10, 10 ** 60))) for node in list(floor)]
        above = []
        while len(above) < 12:
            parts = tuple(chance.sample(floor, chance.choice((2, 3))))
            bases = [part[1] if isinstance(part, tuple) and part[0] == "run" else part for part in parts]
            if all(one != other for one, other in zip(bases, bases[1:])):
                above.append(("block", parts))
        floors.append(above)
    return floors


class ExamplesTest(unittest.TestCase):
    def test_example(self):
        node = ("block", (("run", 5, 2), 7))
        self.assertEqual(
            [is_node(node), is_node(("block", (5, 5))), is_node(("run", 5, 1)),
             level_of(node), size_of(node), text_of(node)],
            [True, False, False, 1, 3, "(5^2 7)"],
        )

    def test_example_of_reading(self):
        self.assertEqual(node_from("(1 2)^3"), ("run", ("block", (1, 2)), 3))

    def test_example_of_a_bad_text(self):
        with self.assertRaises(BadText) as caught:
            node_from("(1 01)")
        self.assertEqual(caught.exception.text, "(1 01)")


class IsNodeTest(unittest.TestCase):
    def test_no_node(self):
        for value in [None, *reference.STRANGE_VALUES, *reference.deep_values()]:
            self.assertIs(is_node(value), False)

    def test_edges_of_numbers(self):
        for value in (0, 1, 10 ** 9):
            self.assertIs(is_node(value), True)
        for count in (2, 3, 10 ** 60):
            self.assertIs(is_node(("run", 0, count)), True)
            self.assertIs(is_node(("run", ("block", (10 ** 9, 0)), count)), True)
        for value in (-1, 10 ** 9 + 1, ("run", 0, 1), ("run", 0, 10 ** 60 + 1), ("run", 0, 0)):
            self.assertIs(is_node(value), False)

    def test_unlike_bases(self):
        one, other = ("block", (1, 2)), ("block", (2, 1))
        for parts in ((one, other), (("run", one, 2), other), (one, ("run", other, 2), one),
                      (("run", one, 2), ("run", other, 2)), (one, other, one)):
            self.assertIs(is_node(("block", parts)), True)
        for parts in ((one, one), (("run", one, 2), one), (one, ("run", one, 2)), (other, one, one),
                      (("run", one, 2), ("run", one, 3), other)):
            self.assertIs(is_node(("block", parts)), False)

    def test_nodes_of_every_level(self):
        for floor in some_nodes():
            for node in floor:
                self.assertIs(is_node(node), True, node)

    def test_a_boolean_or_list_anywhere_makes_it_no_node(self):
        def spoiled(value):
            if isinstance(value, tuple):
                yield list(value)
                for at, item in enumerate(value):
                    for other in spoiled(item):
                        yield value[:at] + (other,) + value[at + 1:]
            elif isinstance(value, int):
                yield from (True, False, None, str(value), -1, (value,), [value])
            else:
                yield from (None, value + " ", value.upper(), 0)
        whole = node_from("((1 2)^2 (3^4 5 6) (1 2))^3")
        self.assertIs(is_node(whole), True)
        for value in spoiled(whole):
            self.assertIs(is_node(value), False, value)

    def test_levels_as_deep_as_any_value(self):
        left, right = 1, 2
        for _ in range(10):
            left, right = ("block", (left, right)), ("block", (right, left))
        self.assertIs(is_node(left), True)
        self.assertEqual([level_of(left), size_of(left)], [10, 1024])

    def test_by_name_and_unchanged(self):
        for value in [*reference.STRANGE_VALUES, *reference.deep_values()[:1]]:
            before = copy.deepcopy(value)
            is_node(value=value)
            self.assertEqual(value, before)


class MeasuresTest(unittest.TestCase):
    def test_levels(self):
        for level, floor in enumerate(some_nodes()):
            for node in floor:
                self.assertEqual(level_of(node), level)

    def test_sizes(self):
        for text, size in (("7", 1), ("0", 1), ("7^9", 9), ("(1 2 3)", 3), ("(1^4 2)^3", 15),
                           (f"(1 2)^{10 ** 60}", 2 * 10 ** 60), ("((1 2)^2 (3 4 5^6))^7", 84)):
            self.assertEqual(size_of(node_from(text)), size)

    def test_texts(self):
        for node, text in ((0, "0"), (10 ** 9, "1000000000"), (("run", 5, 10 ** 60), "5^1" + 60 * "0"),
                           (("block", (1, 2, 1)), "(1 2 1)"), (("run", ("block", (1, ("run", 2, 2))), 3), "(1 2^2)^3")):
            self.assertEqual(text_of(node), text)
        for floor in some_nodes():
            for node in floor:
                self.assertEqual(text_of(node), reference.text(node))

    def test_by_name(self):
        node = ("block", (1, ("run", 2, 3)))
        self.assertEqual([level_of(node=node), size_of(node=node), text_of(node=node)], [1, 4, "(1 2^3)"])


class NodeFromTest(unittest.TestCase):
    def refuse(self, text):
        with self.assertRaises(BadText) as caught:
            node_from(text)
        self.assertIs(caught.exception.text, text)

    def test_back_and_forth(self):
        for floor in some_nodes():
            for node in floor:
                self.assertEqual(node_from(text_of(node)), node)

    def test_all_short_texts(self):
        for length in range(6):
            good = node_texts(length)
            for signs in itertools.product(SHORT_SIGNS, repeat=length):
                text = "".join(signs)
                if text in good:
                    self.assertEqual(text_of(node_from(text)), text)
                    self.assertIs(is_node(node_from(text)), True)
                else:
                    self.refuse(text)

    def test_longer_short_texts(self):
        good = node_texts(9)
        self.assertIn("(1 2)^120", good)
        for text in sorted(good):
            self.assertEqual(text_of(node_from(text)), text)

    def test_one_character_otherwise(self):
        for text in ("((1 2)^2 (3^4 5 16) (10 2))^13", "((1 2) (2 1))", "(1 2 1)", "1000000000", "0^2"):
            for other in changed_texts(text):
                try:
                    node = node_from(other)
                except BadText as error:
                    self.assertIs(error.text, other)
                else:
                    self.assertEqual(text_of(node), other)
                    self.assertIs(is_node(node), True)

    def test_texts_of_no_node(self):
        for text in (
            "", " ", "()", "(1)", "(1 1)", "(1 2 2)", "(1 2 3 4)", "(1^2 1)", "(1^2 1^3)", "(1  2)", " 1", "1 ",
            "( 1 2)", "(1 2 )", "1 2", "(1 2)(2 1)", "(1 2", "1 2)", "(1 2))", "((1 2)", "((1 2))", "((1 2) 3)",
            "(3 (1 2))", "((1 2) (1 2))", "((1 2)^2 (1 2))", "01", "00", "(1 02)", "1^02", "1^2^2", "1^1", "1^0",
            "1^", "^2", "1 ^2", "1^ 2", "(1 2)^1", "(1 2)^", "(1 2)^2^2", "1000000001", "-1", "+1", "1_0", "1.0",
            "-", "1\n", "\n1", "(1\t2)", "(1,2)", "[1 2]", "a", "\u0661", "\u00b2", "1^\u00b2", "\ud800", "1\u0000",
            f"1^{10 ** 60 + 1}", f"1^0{10 ** 60}", "(1 2)^(1 2)", "(^2 1)", "(1 2^)", "None", "True", "1" + 60 * "0",
        ):
            self.refuse(text)

    def test_no_strings(self):
        for value in [None, 5, b"5", ("block", (1, 2)), ["5"], {"5": "5"}, *reference.deep_values()]:
            self.refuse(value)
        for value in reference.STRANGE_VALUES:
            before = copy.deepcopy(value)
            self.refuse(value)
            self.assertEqual(value, before)

    def test_edges_of_numbers(self):
        self.assertEqual(node_from("0"), 0)
        self.assertEqual(node_from("1000000000"), 10 ** 9)
        self.assertEqual(node_from(f"0^{10 ** 60}"), ("run", 0, 10 ** 60))
        self.assertEqual(node_from("0^2"), ("run", 0, 2))

    def test_thousands_of_digits(self):
        for digits in (62, 4300, 4301, 5000, 19000):
            for digit in "019":
                self.refuse(digits * digit)
                self.refuse("1^" + digits * digit)
                self.refuse(f"(1 {digits * digit})")
                self.refuse(f"(1 2)^{digits * digit}")

    def test_thousands_of_brackets(self):
        for text in (
            20000 * "(", 20000 * ")", 9999 * "(" + "1" + 9999 * ")", 6000 * "(1 ", 6000 * "(1 2", 6600 * "()" + "1",
            6000 * "(" + "1 2" + 6000 * ")", 6600 * "(1 2) ", 5000 * "((1 2) ", 4000 * "(" + 4000 * "1)^2",
            3000 * "(" + "1 2" + 3000 * ") 1)", "(" + 9000 * "1 " + "1)", "(" + 4000 * "1 2 " + "1)",
            10000 * "1^", 6000 * "(^2", "(1 " + 19000 * "(",
        ):
            self.refuse(text)

    def test_long_texts_of_nodes(self):
        left, right = "1", "2"
        for _ in range(12):
            left, right = f"({left} {right})", f"({right} {left})"
        self.assertGreater(len(left), 15000)
        node = node_from(left)
        self.assertEqual([level_of(node), size_of(node), text_of(node)], [12, 4096, left])
        self.refuse(left[:-1])
        self.refuse(left + ")")
        self.refuse(f"({left} 1)")
        self.refuse(f"({left} {left})")

    def test_by_name(self):
        self.assertEqual(node_from(text="(1 2)"), ("block", (1, 2)))


if __name__ == "__main__":
    unittest.main()
