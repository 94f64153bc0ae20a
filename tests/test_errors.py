import unittest

from allmends import errors

# Each class with the class right above it and the name of its attribute.
CLASSES = {
    "MendError": (None, None),
    "InvalidInput": ("MendError", None),
    "InvalidText": ("InvalidInput", "position"),
    "InvalidProgram": ("InvalidInput", "reason"),
    "InvalidContract": ("InvalidInput", "reason"),
    "InvalidChange": ("InvalidInput", None),
    "InvalidStream": ("InvalidInput", None),
    "InvalidPlaces": ("InvalidInput", "place"),
    "InvalidEdit": ("InvalidInput", "place"),
    "InvalidLine": ("InvalidInput", "number"),
    "InvalidName": ("InvalidInput", "name"),
    "Mismatch": ("InvalidInput", None),
    "BoundError": ("MendError", None),
    "TooLarge": ("BoundError", "what"),
    "TooLong": ("BoundError", "what"),
    "TooManyCases": ("BoundError", "limit"),
    "DeskError": ("MendError", None),
    "NameTaken": ("DeskError", "name"),
    "UnknownName": ("DeskError", "name"),
    "NothingToUndo": ("DeskError", None),
    "NothingToRedo": ("DeskError", None),
}
NUMBERS = ("position", "place", "number", "limit")


def classes_above(name):
    found = []
    while name is not None:
        found.append(name)
        name = CLASSES[name][0]
    return found


class ErrorsTest(unittest.TestCase):
    def test_attributes_are_passed_by_position(self):
        for name, (_, attribute) in CLASSES.items():
            with self.subTest(name):
                made = getattr(errors, name)
                if attribute is None:
                    made()
                else:
                    for worth in (0, 7, 4000) if attribute in NUMBERS else ("", "letters"):
                        self.assertEqual(getattr(made(worth), attribute), worth)

    def test_each_error_is_an_instance_of_the_classes_above_it_alone(self):
        for name, (_, attribute) in CLASSES.items():
            made = getattr(errors, name)
            error = made() if attribute is None else made(1)
            for other in CLASSES:
                with self.subTest(name=name, other=other):
                    self.assertEqual(isinstance(error, getattr(errors, other)), other in classes_above(name))
            self.assertIsInstance(error, ValueError)

    def test_errors_are_defined_in_their_file(self):
        for name in CLASSES:
            self.assertEqual(getattr(errors, name).__module__, "allmends.errors")

    def test_errors_can_be_raised_and_caught(self):
        with self.assertRaises(errors.BoundError) as caught:
            raise errors.TooLarge("weight")
        self.assertEqual(caught.exception.what, "weight")
        self.assertIn("weight", str(caught.exception))


if __name__ == "__main__":
    unittest.main()
