import unittest

from localblocks import errors

ARGUMENTS = {
    "BadText": ("text",), "TooLong": ("limit",), "NoIndex": ("index",), "NoRange": ("start", "stop"),
    "BadName": ("name",), "BadRuns": ("runs",), "BadTimes": ("times",), "NoName": ("name",),
    "TooMany": ("limit",), "NothingToUndo": (), "BadLine": ("line",),
}


class ErrorsTest(unittest.TestCase):
    def test_the_base_is_directly_below_value_error(self):
        self.assertEqual(errors.BlockError.__bases__, (ValueError,))

    def test_each_error_is_directly_below_the_base(self):
        for name in ARGUMENTS:
            self.assertEqual(getattr(errors, name).__bases__, (errors.BlockError,), name)

    def test_each_error_is_defined_in_this_module(self):
        for name in [*ARGUMENTS, "BlockError"]:
            self.assertEqual(getattr(errors, name).__module__, "localblocks.errors")

    def test_none_is_below_another_one(self):
        kinds = [getattr(errors, name) for name in ARGUMENTS]
        for one in kinds:
            self.assertEqual([other for other in kinds if issubclass(one, other)], [one])

    def test_any_values_become_attributes(self):
        values = (None, True, -1, 10 ** 5000, "a", ("run", 5, 1), [1, [2]], {"a": {}}, [])
        for name, attributes in ARGUMENTS.items():
            for at in range(len(values)):
                given = [values[(at + k) % len(values)] for k in range(len(attributes))]
                by_place = getattr(errors, name)(*given)
                by_name = getattr(errors, name)(**dict(zip(attributes, given)))
                for attribute, value in zip(attributes, given):
                    self.assertIs(getattr(by_place, attribute), value)
                    self.assertIs(getattr(by_name, attribute), value)

    def test_each_can_be_caught_as_the_base(self):
        for name, attributes in ARGUMENTS.items():
            with self.assertRaises(errors.BlockError):
                raise getattr(errors, name)(*attributes)


if __name__ == "__main__":
    unittest.main()
