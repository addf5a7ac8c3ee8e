"""leadlight.errors: which class stands straight under which, and the field `at`."""

import unittest

from leadlight import errors

ABOVE = {
    "LeadError": ValueError,
    "BadSize": errors.LeadError,
    "BadPoint": errors.LeadError,
    "BadTurn": errors.LeadError,
    "BadMany": errors.LeadError,
    "BadQuarter": errors.LeadError,
    "BadColour": errors.LeadError,
    "NoPane": errors.LeadError,
    "Glazed": errors.LeadError,
    "Full": errors.LeadError,
    "AtStep": errors.LeadError,
    "Off": errors.AtStep,
    "Taken": errors.AtStep,
    "Crossing": errors.AtStep,
    "Framed": errors.AtStep,
    "BadText": errors.AtStep,
    "Missing": LookupError,
    "NoLead": errors.Missing,
    "NoGlass": errors.Missing,
    "NoWindow": errors.Missing,
    "NothingLeft": IndexError,
}

WITH_AT = ("AtStep", "Off", "Taken", "Crossing", "Framed", "BadText", "NoLead")


def classes_above(name):
    """The names of ABOVE under which a class has to be, itself among them."""
    found = {name}
    above = ABOVE[name]
    while above.__name__ in ABOVE:
        found.add(above.__name__)
        above = ABOVE[above.__name__]
    return found


class Families(unittest.TestCase):
    def test_each_stands_straight_under_its_class(self):
        for name, above in ABOVE.items():
            with self.subTest(name=name):
                self.assertEqual(getattr(errors, name).__bases__, (above,))

    def test_each_is_under_no_other_one(self):
        for name in ABOVE:
            for other in ABOVE:
                with self.subTest(name=name, other=other):
                    self.assertIs(
                        issubclass(getattr(errors, name), getattr(errors, other)),
                        other in classes_above(name),
                    )

    def test_lead_errors_are_no_lookup_errors_and_the_other_way_round(self):
        for name in ABOVE:
            made = getattr(errors, name)
            with self.subTest(name=name):
                self.assertIs(issubclass(made, ValueError), "LeadError" in classes_above(name))
                missing = "Missing" in classes_above(name) or name == "NothingLeft"
                self.assertIs(issubclass(made, LookupError), missing)
                self.assertIs(issubclass(made, IndexError), name == "NothingLeft")
                self.assertFalse(issubclass(made, KeyError))

    def test_names_are_their_own(self):
        for name in ABOVE:
            self.assertEqual(getattr(errors, name).__name__, name)


class FieldAt(unittest.TestCase):
    def test_at_is_what_was_handed_in(self):
        for name in WITH_AT:
            for at in (0, 1, 8, 19, -1, 10**60 - 1):
                with self.subTest(name=name, at=at):
                    self.assertEqual(getattr(errors, name)(at).at, at)
                    self.assertEqual(getattr(errors, name)(at=at).at, at)

    def test_at_can_be_read_when_it_is_caught(self):
        for name in WITH_AT:
            made = getattr(errors, name)
            with self.subTest(name=name):
                with self.assertRaises(made) as caught:
                    raise made(7)
                self.assertEqual(caught.exception.at, 7)

    def test_each_object_has_its_own(self):
        one, other = errors.Off(2), errors.Off(5)
        self.assertEqual((one.at, other.at), (2, 5))

    def test_the_others_have_no_at(self):
        for name in ABOVE:
            if name not in WITH_AT:
                with self.subTest(name=name):
                    self.assertFalse(hasattr(getattr(errors, name)(), "at"))


if __name__ == "__main__":
    unittest.main()
