"""The errors of the interface: their bases, their arguments and their fields."""

import unittest

from retrysafe import errors

VALUES = """InvalidWidth InvalidSpace InvalidMatrix InvalidValues InvalidArguments InvalidTaken InvalidMarks InvalidFar
InvalidPosition InvalidCosts InvalidPlan InvalidRun InvalidCount InvalidStudy InvalidNetwork InvalidName InvalidNumber
InvalidIndex InvalidPlaces InvalidWord InvalidText""".split()

FIELDS = {name: (errors.RetryError, ("value",)) for name in VALUES}
FIELDS.update({
    "InvalidVectors": (errors.RetryError, ("position",)),
    "DifferentWidths": (errors.RetryError, ("one", "other")),
    "InvalidJob": (errors.RetryError, ("part",)),
    "ParseError": (errors.RetryError, ("line",)),
    "InvalidLine": (errors.RetryError, ()),
    "UnknownPlace": (KeyError, ("value",)),
    "UnknownJob": (KeyError, ("value",)),
    "UnknownRun": (KeyError, ("run",)),
    "NoValue": (LookupError, ("position",)),
    "AtEnd": (LookupError, ("position",)),
    "Started": (LookupError, ("position",)),
    "DuplicateRun": (LookupError, ("run",)),
    "ClosedRun": (LookupError, ("run",)),
    "NoCopy": (LookupError, ("run", "number")),
    "NotKept": (LookupError, ("run", "number")),
    "StillNeeded": (LookupError, ("run", "number")),
    "NoJob": (LookupError, ()),
    "NoMachine": (LookupError, ()),
    "TooLarge": (OverflowError, ("limit",)),
})


class TestErrors(unittest.TestCase):
    def test_base_is_a_value_error(self):
        self.assertEqual(errors.RetryError.__bases__, (ValueError,))

    def test_every_class_has_its_only_base(self):
        for name, (base, _) in FIELDS.items():
            with self.subTest(name):
                self.assertEqual(getattr(errors, name).__bases__, (base,))
                self.assertEqual(getattr(errors, name).__module__, "retrysafe.errors")

    def test_there_are_no_further_classes(self):
        found = {name for name, value in vars(errors).items() if isinstance(value, type)}
        self.assertEqual(found, set(FIELDS) | {"RetryError"})

    def test_fields_carry_the_arguments_themselves(self):
        for name, (_, fields) in FIELDS.items():
            told = [[] for _ in fields]
            by_name = dict(zip(fields, told))
            for error in (getattr(errors, name)(*told), getattr(errors, name)(**by_name)):
                with self.subTest(name):
                    self.assertEqual(list(vars(error)), list(fields))
                    for field, value in by_name.items():
                        self.assertIs(getattr(error, field), value)

    def test_an_error_without_its_arguments_cannot_be_made(self):
        for name, (_, fields) in FIELDS.items():
            if fields:
                with self.subTest(name), self.assertRaises(TypeError):
                    getattr(errors, name)(*fields[1:])


if __name__ == "__main__":
    unittest.main()
