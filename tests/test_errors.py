"""The interface of dirservice/errors.py."""

import inspect
import unittest

from dirservice import errors

INVALID = {
    "BadName": ("given",),
    "BadFilter": ("place",),
    "BadScope": ("given",),
    "BadNumber": ("given",),
    "BadSchema": ("part", "place"),
    "BadEntry": ("given",),
    "BadDeed": ("place",),
    "BadChange": ("place",),
    "BadVector": ("given",),
    "BadIndex": ("given",),
    "BadText": ("line",),
    "BadHost": ("given",),
    "BadValue": ("attribute", "item"),
    "UnknownAttribute": ("attribute",),
    "MirrorGiven": ("attribute",),
    "UnknownClass": ("given",),
    "BadClasses": (),
    "NotAllowed": ("attribute",),
    "Missing": ("attribute",),
    "TooManyValues": ("attribute",),
    "ValueTaken": ("attribute", "item"),
    "NotNamed": ("attribute",),
    "BadPlace": ("given",),
    "NoTarget": ("attribute", "item"),
    "NotInteger": ("attribute",),
    "NoOrder": ("attribute",),
}
CONFLICT = {
    "NoEntry": ("missing", "matched"),
    "NameTaken": ("given",),
    "HasChildren": ("given",),
    "InUse": ("holder",),
    "Inside": ("given",),
    "NoValue": ("attribute", "item"),
    "Referral": ("targets",),
    "IndexTaken": ("given",),
    "NoIndex": ("given",),
    "NothingToUndo": (),
    "NoHost": ("host",),
    "Gap": ("host",),
    "Behind": ("host",),
    "Forgotten": ("host",),
    "PagingOver": (),
}
EXCESS = {
    "Full": ("limit",),
    "TooDeep": ("limit",),
    "SizeLimit": ("limit",),
}
FAMILIES = ((errors.Invalid, INVALID), (errors.Conflict, CONFLICT), (errors.Excess, EXCESS))
GIVEN = ("text", None, 5, ("a", 1), ["b"], "")


class TestErrors(unittest.TestCase):

    def test_families_derive_from_builtin_errors(self):
        self.assertEqual(errors.Invalid.__bases__, (ValueError,))
        self.assertEqual(errors.Conflict.__bases__, (LookupError,))
        self.assertEqual(errors.Excess.__bases__, (ArithmeticError,))

    def test_every_error_is_a_direct_subclass_of_its_family(self):
        for family, table in FAMILIES:
            for name in table:
                with self.subTest(name):
                    self.assertEqual(getattr(errors, name).__bases__, (family,))

    def test_no_other_errors_are_there(self):
        listed = {"Invalid", "Conflict", "Excess"} | {name for _, table in FAMILIES for name in table}
        self.assertEqual({name for name, one in vars(errors).items() if inspect.isclass(one)}, listed)

    def test_attributes_by_position(self):
        for name, words in self.rows():
            with self.subTest(name):
                made = getattr(errors, name)(*GIVEN[:len(words)])
                self.assertEqual(vars(made), dict(zip(words, GIVEN)))

    def test_attributes_by_name(self):
        for name, words in self.rows():
            for start in range(4):
                given = dict(zip(words, GIVEN[start:]))
                with self.subTest(name, given=given):
                    self.assertEqual(vars(getattr(errors, name)(**given)), given)

    def test_attributes_by_name_in_the_other_order(self):
        made = errors.BadSchema(place=3, part="classes")
        self.assertEqual((made.part, made.place), ("classes", 3))
        made = errors.NoEntry("a", matched="b")
        self.assertEqual((made.missing, made.matched), ("a", "b"))

    def test_attributes_cannot_be_left_out_or_added(self):
        for name, words in self.rows():
            with self.subTest(name):
                if words:
                    with self.assertRaises(TypeError):
                        getattr(errors, name)(*GIVEN[:len(words) - 1])
                    with self.assertRaises(TypeError):
                        getattr(errors, name)(*GIVEN[:len(words) + 1])

    def test_errors_are_caught_by_family(self):
        for family, table in FAMILIES:
            for name, words in table.items():
                with self.subTest(name), self.assertRaises(family):
                    raise getattr(errors, name)(*GIVEN[:len(words)])

    def test_errors_are_of_no_other_family(self):
        for family, table in FAMILIES:
            for other, others in FAMILIES:
                for name in table:
                    with self.subTest(name, other=other):
                        one = getattr(errors, name)
                        self.assertEqual(issubclass(one, other), other is family)
                        self.assertEqual(issubclass(one, other.__bases__[0]), other is family)
                        self.assertFalse(any(issubclass(one, getattr(errors, word)) for word in others if word != name))

    def test_errors_are_shown_as_in_the_examples(self):
        self.assertEqual(repr(errors.TooManyValues("age")), "TooManyValues('age')")
        self.assertEqual(repr(errors.NoValue("age", "")), "NoValue('age', '')")
        self.assertEqual(repr(errors.BadFilter(4)), "BadFilter(4)")
        self.assertEqual(repr(errors.BadClasses()), "BadClasses()")

    def rows(self):
        return [row for _, table in FAMILIES for row in table.items()]


if __name__ == "__main__":
    unittest.main()
