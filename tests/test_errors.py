import unittest

from ovalfield import errors

BY_TEXT = (
    "NoPrime", "NoOver", "NoTriple", "NoTable", "NoCount", "NoCurve",
    "NotWhole", "TooMany", "NoPicture", "NoRow", "NothingDone",
)
THREE = ((1, 0, 0), (0, 1, 0), (1, 1, 0))
BY_FIELD = (
    ("BadRow", "row", (0, 7, 199)),
    ("Alike", "triple", ((1, 0, 10), (0, 0, 1))),
    ("NotOn", "triple", ((1, 2, 2), (0, 1, 0))),
    ("OnLine", "points", (THREE, THREE + ((1, 2, 0),))),
)
NAMES = BY_TEXT + tuple(name for name, field, values in BY_FIELD)


def made():
    """One of each refusal, by its name."""
    refusals = {name: getattr(errors, name)("some words") for name in BY_TEXT}
    for name, field, values in BY_FIELD:
        refusals[name] = getattr(errors, name)(values[0])
    return refusals


class TestErrors(unittest.TestCase):
    def test_there_are_fifteen(self):
        self.assertEqual(len(set(NAMES)), 15)

    def test_oval_error_stands_under_value_error(self):
        self.assertEqual(errors.OvalError.__bases__, (ValueError,))

    def test_each_stands_straight_under_oval_error(self):
        for name in NAMES:
            self.assertEqual(getattr(errors, name).__bases__, (errors.OvalError,), name)

    def test_each_made_is_of_its_own_class_alone(self):
        for name, refusal in made().items():
            self.assertIsInstance(refusal, errors.OvalError)
            self.assertIsInstance(refusal, ValueError)
            for other in NAMES:
                self.assertIs(isinstance(refusal, getattr(errors, other)), other == name, (name, other))

    def test_each_raised_is_taken_by_its_own_class_alone(self):
        for name, refusal in made().items():
            for other in NAMES:
                taken = None
                try:
                    raise refusal
                except getattr(errors, other):
                    taken = True
                except errors.OvalError:
                    taken = False
                self.assertIs(taken, other == name, (name, other))

    def test_those_of_one_text_hold_it(self):
        for name in BY_TEXT:
            self.assertEqual(str(getattr(errors, name)("some words")), "some words")

    def test_fields_are_as_handed_in(self):
        for name, field, values in BY_FIELD:
            for value in values:
                refusal = getattr(errors, name)(value)
                self.assertEqual(getattr(refusal, field), value)
                self.assertIs(type(getattr(refusal, field)), type(value))

    def test_those_with_a_field_show_words(self):
        for name, field, values in BY_FIELD:
            for value in values:
                self.assertIn(str(value), str(getattr(errors, name)(value)))


if __name__ == "__main__":
    unittest.main()
