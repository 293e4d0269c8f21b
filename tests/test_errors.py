"""[4] and the interface of shutpairs/errors.py."""

import unittest

from shutpairs import errors

PLAIN = (
    "NotIn", "NoText", "NoRule", "NoSum", "NoPlace", "NoPair", "NotPaired", "NotSoMany",
    "NotStrict", "LeftOver", "NoBottom", "NoLanes", "TooGreat", "NoLine", "NothingLeft",
)
WITH_FIELDS = {
    "NoHeap": {"part": -3},
    "NotKept": {"number": 4},
    "Unmatched": {"choice": (0, 2), "one": 6, "other": 8},
    "TooLong": {"place": (2, (3, 1), (0,))},
    "NoName": {"name": "abc"},
}
ALL = PLAIN + tuple(WITH_FIELDS)


def made(name):
    return getattr(errors, name)(*WITH_FIELDS.get(name, {}).values())


class Refusals(unittest.TestCase):
    def test_there_are_twenty(self):
        self.assertEqual(len(set(ALL)), 20)
        classes = [value for value in vars(errors).values() if isinstance(value, type)]
        self.assertEqual({value.__name__ for value in classes}, set(ALL) | {"ShutError"})

    def test_shut_error_is_a_value_error(self):
        self.assertEqual(errors.ShutError.__bases__, (ValueError,))
        self.assertIsInstance(errors.ShutError(), ValueError)

    def test_each_is_straight_beneath_shut_error(self):
        for name in ALL:
            with self.subTest(name=name):
                self.assertEqual(getattr(errors, name).__bases__, (errors.ShutError,))
                self.assertIsInstance(made(name), errors.ShutError)
                self.assertIsInstance(made(name), ValueError)

    def test_each_is_of_no_other_refusals_class(self):
        for name in ALL:
            for other in ALL:
                with self.subTest(name=name, other=other):
                    self.assertEqual(isinstance(made(name), getattr(errors, other)), name == other)

    def test_each_can_be_raised_and_taken_by_its_name(self):
        for name in ALL:
            with self.subTest(name=name):
                with self.assertRaises(getattr(errors, name)) as taken:
                    raise made(name)
                self.assertEqual(type(taken.exception).__name__, name)

    def test_fields_are_set_when_made(self):
        for name, fields in WITH_FIELDS.items():
            with self.subTest(name=name):
                error = made(name)
                self.assertEqual(vars(error), fields)

    def test_plain_ones_have_no_field(self):
        for name in PLAIN:
            with self.subTest(name=name):
                self.assertEqual(vars(made(name)), {})


if __name__ == "__main__":
    unittest.main()
