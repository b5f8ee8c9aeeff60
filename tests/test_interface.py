"""Point [0], second paragraph, and what holds for the interface of every file."""

import copy
import importlib
import inspect
import unittest

from dirservice.directories import Directory
from dirservice.entries import Entry
from dirservice.errors import BadName
from dirservice.federations import Federation
from dirservice.filters import All, AtLeast, AtMost, Equal, Not, Pieces, Present, Some
from dirservice.indexes import add_index, candidates, drop_index
from dirservice.names import Name
from dirservice.replicas import Replica
from dirservice.schemas import Attribute, ObjectClass, Schema
from dirservice.searching import Paging, search
from dirservice.texts import write
from tests.samples import ATTRIBUTES, CLASSES, outcome, schema, unit

FUNCTIONS = {
    "values": {
        "is_valid": "(syntax, value)",
        "normal": "(syntax, value)",
        "are_equal": "(syntax, one, other)",
        "is_less": "(syntax, one, other)",
        "has_order": "(syntax)",
    },
    "filters": {
        "read_filter": "(text)",
    },
    "indexes": {
        "add_index": "(directory, word, index)",
        "drop_index": "(directory, word, index)",
        "candidates": "(directory, wanted)",
    },
    "searching": {
        "search": "(directory, base, scope='subtree', wanted='(&)', *, words=None, order=(), limit=None, manage=False)",
        "how_many": "(directory, base, scope='subtree', wanted='(&)', *, manage=False)",
    },
    "federations": {
        "targets_for": "(directory, name)",
    },
    "texts": {
        "entry_text": "(entry)",
        "read_entry": "(text)",
        "write": "(directory)",
        "read": "(schema, text)",
        "script_text": "(deeds)",
        "read_script": "(text)",
    },
}
CONSTANTS = {
    "values": {"SYNTAXES": ("text", "exact", "integer", "truth", "name"), "MAX_VALUE": 60, "MAX_DIGITS": 30},
    "filters": {"MAX_PARTS": 60, "MAX_LEVELS": 12},
    "directories": {"MAX_ENTRIES": 300, "MAX_DEPTH": 12, "MAX_UNDO": 20},
    "indexes": {"INDEXES": ("present", "equal", "order", "pieces")},
    "searching": {"SCOPES": ("base", "one", "below", "subtree")},
}
CLASS_TABLE = {
    "names": {
        "Name": {
            "__init__": "(self, text='')", "of": "(*leaves)", "child": "(self, leaf)", "moved": "(self, old, new)",
            "comes_before": "(self, other)", "__contains__": "(self, x)", "__eq__": "(self, other)", "__str__": "(self)",
            "text": None, "normal": None, "leaf": None, "parent": None, "pairs": None, "depth": None,
        },
    },
    "schemas": {
        "Attribute": {
            "__init__": "(self, word, syntax='text', *, single=False, tracked=False, mirror=None)",
            "word": None, "syntax": None, "single": None, "tracked": None, "mirror": None,
        },
        "ObjectClass": {
            "__init__": "(self, word, *, role='structural', above=None, must=(), may=(), under=None)",
            "word": None, "role": None, "above": None, "must": None, "may": None, "under": None,
        },
        "Schema": {
            "__init__": "(self, attributes, classes)", "syntax_of": "(self, word)", "is_single": "(self, word)",
            "is_tracked": "(self, word)", "mirror_of": "(self, word)", "classes_above": "(self, word)",
            "belongs": "(self, entry)", "required": "(self, entry)", "allowed": "(self, entry)",
            "check": "(self, entry, above=None)", "__eq__": "(self, other)", "attributes": None, "classes": None,
        },
    },
    "entries": {
        "Entry": {
            "__init__": "(self, entry_name, **attributes)", "of": "(entry_name, attributes)",
            "with_values": "(self, **attributes)", "renamed": "(self, name)", "__getitem__": "(self, at)",
            "__contains__": "(self, x)", "__iter__": "(self)", "__eq__": "(self, other)", "name": None, "words": None,
        },
    },
    "filters": {
        "Filter": {
            "result": "(self, schema, entry)", "simplified": "(self)", "__and__": "(self, other)",
            "__or__": "(self, other)", "__neg__": "(self)", "__eq__": "(self, other)", "__str__": "(self)", "text": None,
            "parts": None, "levels": None, "size": None,
        },
        "All": {"__init__": "(self, *parts)"},
        "Some": {"__init__": "(self, *parts)"},
        "Not": {"__init__": "(self, part)"},
        "Present": {"__init__": "(self, word)"},
        "Equal": {"__init__": "(self, word, value)"},
        "AtLeast": {"__init__": "(self, word, value)"},
        "AtMost": {"__init__": "(self, word, value)"},
        "Pieces": {"__init__": "(self, word, *pieces)"},
    },
    "directories": {
        "Directory": {
            "__init__": "(self, schema, entries=())", "add_entry": "(self, entry, *, manage=False)",
            "delete": "(self, name, *, manage=False)", "modify": "(self, name, changes, *, manage=False)",
            "rename": "(self, name, leaf, *, under=None, keep=False, manage=False)",
            "apply": "(self, deeds, *, manage=False)", "undo": "(self)", "attempt": "(self, function)",
            "walk": "(self, base='')", "children": "(self, name='')", "__getitem__": "(self, at)",
            "__contains__": "(self, x)", "__len__": "(self)", "__iter__": "(self)", "__eq__": "(self, other)",
            "schema": None, "indexes": None, "undoable": None,
        },
    },
    "searching": {
        "Result": {
            "__len__": "(self)", "__getitem__": "(self, at)", "__iter__": "(self)", "entries": None, "references": None,
            "looked": None,
        },
        "Paging": {
            "__init__": "(self, directory, size, base, scope='subtree', wanted='(&)', **options)", "page": "(self)",
            "again": "(self)", "left": None, "is_over": None,
        },
    },
    "federations": {
        "Federation": {
            "__init__": "(self, **directories)", "__getitem__": "(self, at)", "__setitem__": "(self, at, worth)",
            "__iter__": "(self)", "search": "(self, host, base, scope='subtree', wanted='(&)')", "hosts": None,
        },
    },
    "replicas": {
        "Change": {"__eq__": "(self, other)", "stamp": None, "number": None, "deed": None},
        "Replica": {
            "__init__": "(self, word, schema)", "as_directory": "(self)", "add_entry": "(self, entry)", "delete": "(self, name)",
            "modify": "(self, name, changes)", "rename": "(self, name, leaf, *, under=None, keep=False)",
            "changes": "(self, vector=None)", "take": "(self, changes)", "pull": "(self, other)", "trim": "(self, vectors)",
            "mark_of": "(self, name)", "name_of": "(self, mark)", "word": None, "vector": None, "conflicts": None,
        },
    },
}


def objects():
    """An object of each class, made anew."""
    comparisons = (Present("a"), Equal("a", "b"), AtLeast("a", "b"), AtMost("a", "b"), Pieces("a", "b", ""))
    filters = (All(), Some(), Not(Present("a")), *comparisons)
    directory, replica = Directory(schema(), (unit(),)), Replica("west", schema())
    replica.add_entry(unit())
    return (Name("cn=A,ou=b"), Attribute("cn"), ObjectClass("unit"), schema(), unit(), BadName("x"), directory, *filters,
            search(directory, ""), Paging(directory, 1, ""), Federation(west=directory), replica, replica.changes()[0])


class TestInterface(unittest.TestCase):

    def test_functions_stand_in_their_files(self):
        for place, table in FUNCTIONS.items():
            module = importlib.import_module(f"dirservice.{place}")
            for word, signature in table.items():
                with self.subTest(word):
                    function = getattr(module, word)
                    self.assertTrue(inspect.isfunction(function))
                    self.assertEqual(function.__module__, module.__name__)
                    self.assertEqual(str(inspect.signature(function)), signature)

    def test_classes_stand_in_their_files(self):
        for place, table in CLASS_TABLE.items():
            module = importlib.import_module(f"dirservice.{place}")
            for word, members in table.items():
                with self.subTest(word):
                    self.assertEqual(getattr(module, word).__module__, module.__name__)
                    self.check_members(getattr(module, word), members)

    def test_constants_stand_in_their_files(self):
        for place, table in CONSTANTS.items():
            module = importlib.import_module(f"dirservice.{place}")
            for word, value in table.items():
                self.assertEqual(getattr(module, word), value)
                self.assertIs(type(getattr(module, word)), type(value))

    def check_members(self, owner, members):
        for word, signature in members.items():
            with self.subTest(word):
                self.assertIn(word, vars(owner))
                if signature is None:
                    self.assertIsInstance(vars(owner)[word], property)
                else:
                    self.assertEqual(str(inspect.signature(getattr(owner, word))), signature)


class TestGeneralRules(unittest.TestCase):

    def test_properties_cannot_be_changed(self):
        for table in CLASS_TABLE.values():
            for owner, members in table.items():
                one = [one for one in objects() if owner in [base.__name__ for base in type(one).__mro__]][0]
                for word, signature in members.items():
                    if signature is None:
                        with self.subTest(owner, word=word), self.assertRaises(AttributeError):
                            setattr(one, word, "changed")

    def test_objects_equal_nothing_of_another_kind(self):
        others = (None, 0, 1, True, "", "cn=A,ou=b", "cn", "x", (), ("cn",), [], {}, b"cn", object())
        for place, one in enumerate(objects()):
            for other in others + tuple([other for at, other in enumerate(objects()) if at != place]):
                with self.subTest(one=one, other=other):
                    self.assertIs(one == other, False)
                    self.assertIs(other == one, False)
                    self.assertIs(one != other, True)

    def test_objects_with_brackets_are_not_iterated(self):
        for one in objects():
            with self.subTest(one), self.assertRaises(TypeError):
                iter(one)
            with self.subTest(one), self.assertRaises(TypeError):
                list(one)

    def test_lists_are_never_tuples(self):
        for call in (lambda: Schema([], ()), lambda: Schema((), []), lambda: Entry("", cn=["a"]),
                     lambda: Schema((), (ObjectClass("a", must=[]),)), lambda: Schema((), (ObjectClass("a", may=[]),)),
                     lambda: Schema((), (ObjectClass("a", under=[]),)), lambda: unit().with_values(cn=[]),
                     lambda: Entry.of("", {"cn": []}), lambda: Directory(schema(), []),
                     lambda: Directory(schema()).modify("", []), lambda: Directory(schema()).modify("", (("add", "cn", []),)),
                     lambda: Directory(schema()).modify("", (["add", "cn", ()],)), lambda: Directory(schema()).apply([]),
                     lambda: Directory(schema()).apply((["delete", ""],)),
                     lambda: Directory(schema()).apply((("modify", "", []),)), lambda: Replica("west", schema()).take([]),
                     lambda: Replica("west", schema()).trim([]), lambda: Replica("west", schema()).modify("", [])):
            self.assertIn(outcome(call)[0], ("BadSchema", "BadEntry", "BadChange", "BadDeed", "BadVector"))

    def test_bools_are_no_integers_and_integers_no_bools(self):
        for value in (0, 1):
            with self.subTest(value):
                self.assertEqual(outcome(Schema, (Attribute("a", single=value),), ())[0], "BadSchema")
                self.assertEqual(outcome(Schema, (Attribute("a", "name", tracked=value),), ())[0], "BadSchema")
                self.assertEqual(outcome(Directory(schema()).apply, (("rename", "", "", None, value),))[0], "BadDeed")
                changes = (("increment", "luck", bool(value)),)
                self.assertEqual(outcome(Directory(schema()).modify, "", changes)[0], "BadChange")
                self.assertEqual(outcome(search, Directory(schema()), "", limit=bool(value))[0], "BadNumber")
                self.assertEqual(outcome(Paging, Directory(schema()), bool(value), "")[0], "BadNumber")
                self.assertEqual(outcome(Replica("west", schema()).changes, {"west": bool(value)})[0], "BadVector")
                self.assertIsNone(Replica("west", schema()).name_of((bool(value), "west")))

    def test_calls_without_a_result_return_none(self):
        directory, federation = Directory(schema(), (unit(),)), Federation()
        self.assertIsNone(add_index(directory, "ou", "equal"))
        self.assertIsNone(drop_index(directory, "ou", "equal"))
        directory.modify("ou=a", ())
        self.assertIsNone(directory.undo())
        self.assertIsNone(federation.__setitem__("west", directory))
        self.assertIsNone(schema().check(unit()))

    def test_a_generator_raises_its_errors_with_its_first_item(self):
        walk = Directory(schema()).walk("no name")
        with self.assertRaises(BadName):
            next(walk)

    def test_errors_are_checked_in_their_order(self):
        self.assertEqual(outcome(Schema, None, None), ("BadSchema", {"part": "attributes", "place": None}))
        self.assertEqual(outcome(Entry.of, "no name", None), ("BadName", {"given": "no name"}))
        self.assertEqual(outcome(Entry, "no name", cn=None), ("BadName", {"given": "no name"}))

    def test_arguments_are_not_changed(self):
        given = {"kind": ("unit",), "ou": ("a",), "mail": ()}
        kept = copy.deepcopy(given)
        entry = Entry.of("ou=a", given)
        entry.with_values(**given)
        schema().check(entry)
        self.assertEqual(given, kept)
        self.assertEqual(list(given), list(kept))

    def test_later_changes_of_arguments_have_no_effect(self):
        given = {"kind": ("unit",), "ou": ("a",)}
        one, other = Entry.of("ou=a", given), unit().with_values(**given)
        given.clear()
        self.assertEqual((one, other), (unit(), unit()))

    def test_later_changes_of_dicts_have_no_effect(self):
        directories = {"west": Directory(schema(), (unit(),))}
        federation = Federation(**directories)
        options = {"words": ("ou",), "order": ("-ou",)}
        paging = Paging(directories["west"], 1, "", **options)
        replica = Replica("west", schema())
        replica.add_entry(unit())
        vector = replica.vector
        for one in (directories, options, vector):
            one.clear()
        self.assertEqual((federation.hosts, replica.vector), (("west",), {"west": 1}))
        self.assertEqual(paging.again().page()[0].words, ("ou",))

    def test_equal_calls_return_equal_results(self):
        one, other = Schema(ATTRIBUTES, CLASSES), Schema(tuple(list(ATTRIBUTES)), tuple(list(CLASSES)))
        self.assertEqual(one, other)
        for _ in range(2):
            self.assertEqual(one.allowed(unit()), other.allowed(unit()))
            self.assertEqual(one.belongs(unit()), other.belongs(unit()))
        self.assertEqual(Name("cn=A").child("cn=B"), Name("cn=A").child("cn=B"))
        first, second = Directory(schema(), (unit(),)), Directory(schema(), (unit(),))
        for directory in (first, second):
            add_index(directory, "ou", "equal")
        for _ in range(2):
            self.assertEqual(first.modify("ou=a", ()), second.modify("ou=a", ()))
            self.assertEqual(candidates(first, "(ou=a)"), candidates(second, "(ou=a)"))
            self.assertEqual(search(first, "").entries, search(second, "").entries)
            self.assertEqual(write(first), write(second))
            self.assertEqual(Federation(a=first).search("a", ""), Federation(a=second).search("a", ""))
        here, there = Replica("west", schema()), Replica("west", schema())
        self.assertEqual([here.add_entry(unit()), here.vector], [there.add_entry(unit()), there.vector])
        self.assertEqual((here.changes(), here.as_directory()), (there.changes(), there.as_directory()))


if __name__ == "__main__":
    unittest.main()
