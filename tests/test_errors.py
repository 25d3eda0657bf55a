import unittest

from nolitter.errors import BadCode, BadCuts, BadPlan, BadText, LitterError, NoBox, NoRow, TooWide, TwiceNamed

MADE = (
    (TwiceNamed, "name", "abc"), (NoBox, "name", "abc"), (TooWide, "number", 256),
    (BadText, "at", 3), (BadCode, "at", 0), (BadPlan, "at", 7), (BadCuts, None, None), (NoRow, None, None),
)


def make(kind, field, value):
    return kind() if field is None else kind(value)


class Refusals(unittest.TestCase):
    def test_each_keeps_its_field(self):
        for kind, field, value in MADE:
            error = make(kind, field, value)
            fields = {} if field is None else {field: value}
            self.assertEqual(vars(error), fields, kind)

    def test_each_is_made_by_its_field_name(self):
        for kind, field, value in MADE:
            if field is not None:
                self.assertEqual(getattr(kind(**{field: value}), field), value)

    def test_each_is_made_of_just_what_stands_in_brackets(self):
        for kind, field, value in MADE:
            with self.assertRaises(TypeError):
                kind(value, value)
        for kind in (BadCuts, NoRow):
            with self.assertRaises(TypeError):
                kind(1)
        for kind, field, value in MADE[:6]:
            with self.assertRaises(TypeError):
                kind()

    def test_each_is_a_refusal_and_a_value_error(self):
        self.assertEqual(LitterError.__bases__, (ValueError,))
        for kind, field, value in MADE:
            with self.assertRaises(LitterError):
                raise make(kind, field, value)
            with self.assertRaises(ValueError):
                raise make(kind, field, value)

    def test_none_is_under_another(self):
        for kind, field, value in MADE:
            others = tuple(other for other, name, given in MADE if other is not kind)
            self.assertEqual(len(others), 7)
            self.assertNotIsInstance(make(kind, field, value), others)


if __name__ == "__main__":
    unittest.main()
