import copy
import unittest

from fallingfields import errors
from samples import any_values

HOLDING = {"BadBook": "error", "TooMany": "limit", "Unlevel": "pair", "NoVersion": "given", "BadLog": "place"}
BARE = ("Unfit", "BadText", "Level", "Few", "TooManyEdits", "NothingToUndo", "NothingToRedo")


def made():
    """Return one object of each error class, but FieldsError."""
    return [getattr(errors, name)() for name in BARE] + [getattr(errors, name)(5) for name in HOLDING]


class ErrorsTest(unittest.TestCase):
    def test_made_by_place_and_by_name_keep_what_was_passed(self):
        for name, attribute in HOLDING.items():
            for value in any_values():
                with self.subTest(name, value=repr(value)[:40]):
                    by_place = getattr(errors, name)(value)
                    by_name = getattr(errors, name)(**{attribute: value})
                    self.assertIs(getattr(by_place, attribute), value)
                    self.assertIs(getattr(by_name, attribute), value)
                    self.assertEqual(list(vars(by_place)), [attribute])

    def test_made_without_arguments(self):
        for name in BARE:
            with self.subTest(name):
                self.assertEqual(vars(getattr(errors, name)()), {})

    def test_need_their_arguments(self):
        for name in HOLDING:
            with self.subTest(name), self.assertRaises(TypeError):
                getattr(errors, name)()

    def test_stand_directly_under_fields_error(self):
        self.assertEqual(errors.FieldsError.__bases__, (ValueError,))
        for error in made():
            with self.subTest(repr(error)):
                self.assertEqual(type(error).__bases__, (errors.FieldsError,))
                self.assertIsInstance(error, errors.FieldsError)
                self.assertIsInstance(error, ValueError)

    def test_none_is_an_instance_of_another_one(self):
        for error in made():
            of = [name for name in BARE + tuple(HOLDING) if isinstance(error, getattr(errors, name))]
            self.assertEqual(of, [type(error).__name__])

    def test_are_defined_in_their_file_and_caught_by_name(self):
        for error in [errors.FieldsError()] + made():
            with self.subTest(repr(error)):
                self.assertEqual(type(error).__module__, "fallingfields.errors")
                with self.assertRaises(type(error)):
                    raise error

    def test_say_something_whatever_they_hold(self):
        for error in made():
            self.assertNotEqual(str(error), "")
        for name in HOLDING:
            for value in any_values():
                self.assertNotEqual(str(getattr(errors, name)(value)), "")

    def test_copies_hold_the_same(self):
        for error in made() + [errors.BadBook(error=("kind", 1)), errors.BadLog(place=[0])]:
            with self.subTest(repr(error)):
                other = copy.deepcopy(error)
                self.assertIs(type(other), type(error))
                self.assertEqual(vars(other), vars(error))
                self.assertEqual(str(other), str(error))


if __name__ == "__main__":
    unittest.main()
