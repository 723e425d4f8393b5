import unittest

from touchall import errors

FIELDS = {
    "NoWeb": ("part", "number"), "NoPlace": ("place",), "NoRows": ("number",), "Overpaid": ("place",),
    "NoStep": ("at",), "NoTree": ("way",), "NotTwo": ("ring",), "NotForest": ("ring",),
    "TooWide": ("place",), "NoText": ("row",),
}
BY_TEXT = ("NoJoin", "NoSet", "NoCalls", "TooMany", "NoDeed", "Bare", "NoSay", "NoName")
VALUES = {
    "part": ["web", "places", "ties"], "number": [None, 0, 7], "place": [5, None, "a", [1], (1,), {}],
    "at": [None, 0, 3], "way": [[], [0, 1]], "ring": [[1, 2, 3]], "row": [0, 12],
}


def made(name):
    if name in BY_TEXT:
        return [getattr(errors, name)("some words")]
    fields = FIELDS[name]
    if len(fields) == 1:
        return [getattr(errors, name)(value) for value in VALUES[fields[0]]]
    return [getattr(errors, name)(a, b) for a in VALUES[fields[0]] for b in VALUES[fields[1]]]


class TestErrors(unittest.TestCase):
    def test_touch_error_is_a_value_error(self):
        self.assertTrue(issubclass(errors.TouchError, ValueError))
        with self.assertRaises(ValueError):
            raise errors.TouchError("words")

    def test_each_bears_its_fields_in_their_order(self):
        for name, fields in FIELDS.items():
            for value in VALUES[fields[0]]:
                for second in VALUES[fields[1]] if len(fields) == 2 else [None]:
                    given = (value, second)[:len(fields)]
                    error = getattr(errors, name)(*given)
                    told = tuple(getattr(error, field) for field in fields)
                    self.assertEqual(told, given, name)

    def test_each_is_made_of_just_its_fields(self):
        for name, fields in FIELDS.items():
            with self.assertRaises(TypeError):
                getattr(errors, name)()
            with self.assertRaises(TypeError):
                getattr(errors, name)(*([1] * (len(fields) + 1)))

    def test_those_of_a_text_tell_it(self):
        for name in BY_TEXT:
            self.assertEqual(str(getattr(errors, name)("some words")), "some words")

    def test_none_is_under_another_one(self):
        names = list(FIELDS) + list(BY_TEXT)
        self.assertEqual(len(names), 18)
        for name in names:
            for error in made(name):
                self.assertIsInstance(error, errors.TouchError)
                self.assertIsInstance(error, ValueError)
                for other in names:
                    self.assertEqual(isinstance(error, getattr(errors, other)), other == name)

    def test_each_is_raised_and_caught_by_name(self):
        for name in list(FIELDS) + list(BY_TEXT):
            for error in made(name):
                with self.assertRaises(getattr(errors, name)):
                    raise error

    def test_a_list_in_a_field_is_the_errors_own(self):
        for name in ("NoTree", "NotTwo", "NotForest"):
            given = [1, 2, 3]
            error = getattr(errors, name)(given)
            given.append(4)
            self.assertEqual(getattr(error, FIELDS[name][0]), [1, 2, 3])
            self.assertEqual(error.args, ([1, 2, 3],))
            getattr(error, FIELDS[name][0]).clear()
            self.assertEqual(given, [1, 2, 3, 4])


if __name__ == "__main__":
    unittest.main()
