"""The refusals of the interface."""

import unittest

from barsplit import errors

OF_A_TEXT = ("NoPrime", "Nought", "NoTable", "NoWidths", "NoRow", "Unlike", "TooMany",
             "NoTurn", "NoLine", "Nothing")
OF_A_NUMBER = {"NoArrow": "at", "NoText": "at", "NoRoom": "room"}
ALL = OF_A_TEXT + tuple(OF_A_NUMBER)


class TestErrors(unittest.TestCase):
    def test_any_refusal_stands_under_value_error(self):
        self.assertEqual(errors.SplitError.__bases__, (ValueError,))

    def test_thirteen_stand_straight_under_it(self):
        self.assertEqual(len(ALL), 13)
        for name in ALL:
            self.assertEqual(getattr(errors, name).__bases__, (errors.SplitError,), name)

    def test_none_stands_under_another(self):
        for one in ALL:
            for other in ALL:
                under = issubclass(getattr(errors, one), getattr(errors, other))
                self.assertEqual(under, one == other, (one, other))

    def test_names_are_their_own(self):
        for name in ALL + ("SplitError",):
            self.assertEqual(getattr(errors, name).__name__, name)
            self.assertEqual(getattr(errors, name).__module__, "barsplit.errors")

    def test_made_of_a_text(self):
        for name in OF_A_TEXT + ("SplitError",):
            made = getattr(errors, name)("some words")
            self.assertEqual(str(made), "some words")

    def test_made_of_a_number(self):
        for name, field in OF_A_NUMBER.items():
            for number in (0, 5, -3, 10 ** 39):
                made = getattr(errors, name)(number)
                self.assertEqual(getattr(made, field), number)
                self.assertIs(type(getattr(made, field)), int)

    def test_made_of_a_named_number(self):
        self.assertEqual(errors.NoArrow(at=2).at, 2)
        self.assertEqual(errors.NoText(at=3).at, 3)
        self.assertEqual(errors.NoRoom(room=4).room, 4)

    def test_raised_and_taken_by_the_base(self):
        for name in ALL:
            made = getattr(errors, name)(1 if name in OF_A_NUMBER else "words")
            with self.assertRaises(errors.SplitError) as caught:
                raise made
            self.assertIs(caught.exception, made)


if __name__ == "__main__":
    unittest.main()
