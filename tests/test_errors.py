"""Point 2 and the interface's row errors: bases, refusals, fields."""

import unittest

from papertongue import errors

BASES = {"TongueError": ValueError, "StandError": LookupError, "RoomError": ArithmeticError}

REFUSALS = {
    "TongueError": {
        "NoTokens": "place", "NoRows": "place", "NoText": "row", "NoTexts": "place", "NoKind": "kind",
        "NoSize": "size", "NoChanges": "place", "NoLine": "line",
    },
    "StandError": {
        "NoInclude": "name", "NoStyle": "name", "NoMark": "name", "NoNumber": "place", "NoPlace": "place",
        "NoDocument": "place", "NoPrinting": "printing",
    },
    "RoomError": {"Ring": "name", "Twice": "name", "TooMany": "many", "TooTall": "row"},
}


def each_refusal():
    """(name of the base, name of the refusal, its fields) of all."""
    for base, told in REFUSALS.items():
        for name, field in told.items():
            yield base, name, (field,)
    yield "RoomError", "Clash", ("one", "other", "row")


class Bases(unittest.TestCase):
    def test_each_is_under_its_own_of_python(self):
        for name, above in BASES.items():
            self.assertEqual(getattr(errors, name).__bases__, (above,))

    def test_none_is_under_another(self):
        for one in BASES:
            for other in BASES:
                if one != other:
                    self.assertFalse(issubclass(getattr(errors, one), getattr(errors, other)))


class Refusals(unittest.TestCase):
    def test_there_are_just_these(self):
        found = [name for name, thing in vars(errors).items() if isinstance(thing, type)]
        self.assertEqual(sorted(found), sorted([*BASES, *[name for _, name, _ in each_refusal()]]))

    def test_each_is_defined_there(self):
        for _, name, _ in each_refusal():
            self.assertEqual(getattr(errors, name).__module__, "papertongue.errors")

    def test_each_stands_under_just_its_base(self):
        for base, name, _ in each_refusal():
            above = [one for one in BASES if issubclass(getattr(errors, name), getattr(errors, one))]
            self.assertEqual((name, above), (name, [base]))

    def test_none_stands_under_another_refusal(self):
        names = [name for _, name, _ in each_refusal()]
        for one in names:
            above = [other for other in names if issubclass(getattr(errors, one), getattr(errors, other))]
            self.assertEqual(above, [one])

    def test_none_stands_under_two_errors_of_python(self):
        for base, name, _ in each_refusal():
            for python in (ValueError, LookupError, ArithmeticError):
                self.assertEqual(issubclass(getattr(errors, name), python), BASES[base] is python)

    def test_fields_are_what_was_given(self):
        for _, name, fields in each_refusal():
            given = [object() for _ in fields]
            made = getattr(errors, name)(*given)
            for field, value in zip(fields, given):
                self.assertIs(getattr(made, field), value)
            self.assertEqual(sorted(vars(made)), sorted(fields))


if __name__ == "__main__":
    unittest.main()
