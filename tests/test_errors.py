"""The refusals: the heading lentshelf/errors.py of the interface."""

import copy
import unittest

from lentshelf import errors

FIELDS = {
    "NoRest": None,
    "NoDeed": "at",
    "BadText": "row",
    "NoPaper": "at",
    "TooMany": "most",
    "NoRoot": "many",
    "NoInverse": "number",
    "NoMove": "at",
    "NoRow": None,
}

THINGS = [
    0, 1, 7, -1, -12, 10 ** 18 - 1, 10 ** 18, -(10 ** 30), 10 ** 5000,
    "", "a", "a row\nand one", "x" * 5000, None, True, False,
    (), (1,), (1, ("two", None)), ("",),
]


def class_of(name):
    return getattr(errors, name)


def made(name, thing=0):
    if FIELDS[name] is None:
        return class_of(name)()
    return class_of(name)(thing)


class TestErrors(unittest.TestCase):
    def test_any_refusal_is_a_value_error(self):
        self.assertTrue(issubclass(errors.LentError, ValueError))
        with self.assertRaises(ValueError):
            raise errors.LentError("why")

    def test_each_is_raised_and_taken_by_its_class_and_those_above(self):
        for name in FIELDS:
            for taken in (class_of(name), errors.LentError, ValueError):
                with self.subTest(name=name, taken=taken):
                    with self.assertRaises(taken) as caught:
                        raise made(name)
                    self.assertIs(caught.exception.__class__, class_of(name))

    def test_none_is_beneath_another(self):
        for name in FIELDS:
            for other in FIELDS:
                if name != other:
                    with self.subTest(name=name, other=other):
                        self.assertNotIsInstance(made(name), class_of(other))

    def test_lent_error_itself_is_none_of_the_nine(self):
        for name in FIELDS:
            self.assertNotIsInstance(errors.LentError(), class_of(name))

    def test_fields_are_kept_as_they_are(self):
        for name, field in FIELDS.items():
            if field is None:
                continue
            for thing in THINGS:
                with self.subTest(name=name):
                    kept = getattr(made(name, thing), field)
                    self.assertIs(kept, thing)

    def test_fields_are_kept_when_raised(self):
        for name, field in FIELDS.items():
            if field is None:
                continue
            for thing in THINGS:
                with self.assertRaises(errors.LentError) as caught:
                    raise made(name, thing)
                self.assertIs(getattr(caught.exception, field), thing)

    def test_a_field_is_handed_in_by_its_place_and_has_to_be(self):
        for name, field in FIELDS.items():
            with self.subTest(name=name):
                if field is None:
                    self.assertEqual(vars(class_of(name)()), {})
                else:
                    self.assertEqual(vars(made(name, 5)), {field: 5})
                    with self.assertRaises(TypeError):
                        class_of(name)()

    def test_two_of_one_class_keep_their_own(self):
        for name, field in FIELDS.items():
            if field is None:
                continue
            one = made(name, "one")
            other = made(name, ("other",))
            again = made(name, -3)
            self.assertEqual(getattr(one, field), "one")
            self.assertEqual(getattr(other, field), ("other",))
            self.assertEqual(getattr(again, field), -3)

    def test_words_can_be_asked_whatever_the_field(self):
        for name in FIELDS:
            for thing in THINGS:
                self.assertIsInstance(str(made(name, thing)), str)

    def test_a_copy_keeps_the_field(self):
        for name, field in FIELDS.items():
            if field is not None:
                self.assertEqual(getattr(copy.copy(made(name, 4)), field), 4)


if __name__ == "__main__":
    unittest.main()
