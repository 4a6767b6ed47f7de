"""The refusals, as the interface lists them."""

import unittest

from postmead import errors

REFUSALS = [
    "NoFraction", "NoLetter", "BadSum", "NoCutting", "NoPost", "NoRope",
    "NoNumber", "BadTable", "NotMead", "BadPairs", "BadLength", "Full", "Few",
    "HasRopes", "NoBack", "BadSheet", "NoName", "Taken",
]
WITH_FIELD = {"NotMead": ("four", (0, 1, 2, 3)), "BadPairs": ("two", (0, 2))}


def made(name):
    refusal = getattr(errors, name)
    if name in WITH_FIELD:
        return refusal(WITH_FIELD[name][1])
    return refusal("why")


class TestErrors(unittest.TestCase):
    def test_mead_error_stands_under_value_error(self):
        self.assertEqual(errors.MeadError.__bases__, (ValueError,))

    def test_eighteen_refusals_each_straight_under_mead_error(self):
        self.assertEqual(len(REFUSALS), 18)
        for name in REFUSALS:
            with self.subTest(name):
                refusal = getattr(errors, name)
                self.assertEqual(refusal.__bases__, (errors.MeadError,))
                self.assertEqual(refusal.__name__, name)
                self.assertEqual(refusal.__module__, "postmead.errors")

    def test_there_is_no_other_class(self):
        classes = [name for name, value in vars(errors).items() if isinstance(value, type)]
        self.assertEqual(sorted(classes), sorted(REFUSALS + ["MeadError"]))

    def test_each_is_caught_by_its_own_class_alone(self):
        for name in REFUSALS:
            for other in REFUSALS:
                with self.subTest(name, other=other):
                    caught = isinstance(made(name), getattr(errors, other))
                    self.assertEqual(caught, name == other)

    def test_fields_are_set_when_the_object_is_created(self):
        for name, (field, value) in WITH_FIELD.items():
            with self.subTest(name):
                with self.assertRaises(errors.MeadError) as caught:
                    raise made(name)
                self.assertEqual(getattr(caught.exception, field), value)


if __name__ == "__main__":
    unittest.main()
