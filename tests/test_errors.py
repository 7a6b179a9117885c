import unittest

from gatetown import errors

WITH_FIELD = {"BadRow": "row", "BadLine": "row", "BadKind": "place", "Lacking": "name", "GivenTwice": "name"}
WITHOUT_FIELD = ["TooLong", "NoRoom", "NoFile"]
ALL = list(WITH_FIELD) + WITHOUT_FIELD


class ErrorsTest(unittest.TestCase):
    def test_town_error_is_a_value_error(self):
        self.assertEqual(errors.TownError.__bases__, (ValueError,))
        with self.assertRaises(ValueError):
            raise errors.TownError("refused")

    def test_each_stands_straight_under_town_error(self):
        for name in ALL:
            self.assertEqual(getattr(errors, name).__bases__, (errors.TownError,), name)

    def test_none_stands_under_another_one(self):
        for name in ALL:
            for another in ALL:
                if name != another:
                    self.assertFalse(issubclass(getattr(errors, name), getattr(errors, another)), (name, another))

    def test_fields(self):
        for name, field in WITH_FIELD.items():
            values = ["a", "sum"] if field == "name" else [0, 7, 4095]
            made = [getattr(errors, name)(value) for value in values]
            self.assertEqual([getattr(error, field) for error in made], values, name)

    def test_no_class_has_the_field_of_another_kind(self):
        for name, field in WITH_FIELD.items():
            error = getattr(errors, name)(1)
            for another in {"row", "place", "name"} - {field}:
                self.assertFalse(hasattr(error, another), (name, another))

    def test_raised_and_taken(self):
        for name, field in WITH_FIELD.items():
            value = "abc" if field == "name" else 12
            with self.assertRaises(errors.TownError) as taken:
                raise getattr(errors, name)(value)
            self.assertIs(type(taken.exception), getattr(errors, name))
            self.assertEqual(getattr(taken.exception, field), value)
        for name in WITHOUT_FIELD:
            with self.assertRaises(errors.TownError) as taken:
                raise getattr(errors, name)()
            self.assertIs(type(taken.exception), getattr(errors, name))


if __name__ == "__main__":
    unittest.main()
