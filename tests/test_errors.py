"""Point [7] and the entry sumtalk/errors.py."""

from sumtalk import errors
from helper import Case

PLAIN = ("OtherField", "OtherCoins", "WrongPlaces", "DegreeTooHigh", "DivisionByZero", "Repeated", "OutOfRange",
         "TooLarge", "BadText", "NoUnit", "BadPaper", "NotFormula", "NotCircuit", "NothingToUndo", "NothingToRedo")
WITH_ATTRIBUTES = {
    "NotPrime": ("value",),
    "NotInField": ("value",),
    "BadName": ("name",),
    "NoSuchName": ("name",),
    "NameTaken": ("name",),
    "BadRow": ("row", "cause"),
}


class Errors(Case):
    def test_base_class_stands_directly_under_value_error(self):
        self.assertEqual(errors.TalkError.__bases__, (ValueError,))

    def test_every_class_stands_directly_under_the_base_class(self):
        for name in PLAIN + tuple(WITH_ATTRIBUTES):
            with self.subTest(name):
                self.assertEqual(getattr(errors, name).__bases__, (errors.TalkError,))

    def test_classes_are_defined_in_their_file(self):
        for name in ("TalkError",) + PLAIN + tuple(WITH_ATTRIBUTES):
            with self.subTest(name):
                self.assertEqual(getattr(errors, name).__module__, "sumtalk.errors")
                self.assertEqual(getattr(errors, name).__name__, name)

    def test_plain_classes_are_called_without_arguments(self):
        for name in PLAIN:
            with self.subTest(name):
                self.error(getattr(errors, name), self.raise_it, getattr(errors, name)())

    def test_attributes_are_the_passed_things_themselves(self):
        for name, attributes in WITH_ATTRIBUTES.items():
            with self.subTest(name):
                passed = [["wrong", attribute] for attribute in attributes]
                error = self.error(getattr(errors, name), self.raise_it, getattr(errors, name)(*passed))
                for attribute, thing in zip(attributes, passed):
                    self.assertIs(getattr(error, attribute), thing)

    def test_arguments_are_passed_by_name_too(self):
        for name, attributes in WITH_ATTRIBUTES.items():
            with self.subTest(name):
                error = getattr(errors, name)(**{attribute: attribute + "!" for attribute in attributes})
                for attribute in attributes:
                    self.assertEqual(getattr(error, attribute), attribute + "!")

    def test_bad_row(self):
        error = errors.BadRow(3, "BadText")
        self.same((error.row, error.cause), (3, "BadText"))

    def raise_it(self, error):
        raise error
