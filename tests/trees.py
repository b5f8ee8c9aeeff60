"""Directories for the tests, and what the tests of directories need."""

import unittest

from dirservice.directories import Directory
from dirservice.entries import Entry
from dirservice.schemas import Attribute, ObjectClass, Schema
from tests.samples import outcome

ATTRIBUTES = (
    Attribute("cn"),
    Attribute("ou"),
    Attribute("code", "exact"),
    Attribute("age", "integer", single=True),
    Attribute("luck", "integer"),
    Attribute("open", "truth"),
    Attribute("link", "name"),
    Attribute("mail"),
    Attribute("boss", "name", tracked=True),
    Attribute("peer", "name", tracked=True),
    Attribute("team", "name", mirror="boss"),
    Attribute("crew", "name", mirror="boss"),
    Attribute("mates", "name", mirror="peer"),
)

CLASSES = (
    ObjectClass("unit", must=("ou",), may=("mail", "boss", "code", "luck", "ref", "link")),
    ObjectClass("thing", role="abstract", may=("code", "link"), under=("unit",)),
    ObjectClass("person", above="thing", must=("cn",),
                may=("age", "luck", "open", "mail", "boss", "peer", "team", "ou")),
    ObjectClass("deputy", above="person", must=("boss",)),
    ObjectClass("chief", above="person", under=("unit", "person")),
    ObjectClass("tag", role="auxiliary", must=("luck",)),
)


def tree_schema():
    return Schema(ATTRIBUTES, CLASSES)


def unit(name, **others):
    """A unit with the value that its name tells."""
    leaf = name.split(",")[0].removeprefix("ou=")
    return Entry(name, kind=("unit",), ou=(leaf,)).with_values(**others)


def person(name, **others):
    """A person with the value that its name tells."""
    leaf = name.split(",")[0].removeprefix("cn=")
    return Entry(name, kind=("person",), cn=(leaf,)).with_values(**others)


def referral(name, *references, **others):
    leaf = name.split(",")[0].removeprefix("ou=")
    return Entry(name, kind=("referral",), ou=(leaf,), ref=references).with_values(**others)


ENTRIES = (
    unit("ou=A"),
    unit("ou=B,ou=A"),
    person("cn=Ann,ou=A", age=("30",), peer=("cn=Ann,ou=A",)),
    person("cn=Bob,ou=A", boss=("cn=Ann,ou=A",), luck=("3", "-4")),
    person("cn=Cid,ou=B,ou=A", kind=("deputy",), boss=("cn=Bob,ou=A", "cn=Ann,ou=A"), mail=("One", "two  too")),
    unit("ou=Z"),
)
NAMES = ("ou=A", "cn=Ann,ou=A", "cn=Bob,ou=A", "ou=B,ou=A", "cn=Cid,ou=B,ou=A", "ou=Z")


def tree(*others):
    """A directory with the entries above, and others."""
    return Directory(tree_schema(), ENTRIES + others)


def names_of(directory):
    """The texts of the names of all entries of a directory."""
    return tuple(entry.name.text for entry in directory.walk())


def values_of(entry):
    return {word: entry[word] for word in entry.words}


def facts_of(directory):
    """All that can be seen of a directory."""
    # Mirrors are looked at in the first entries alone, since there may be many.
    entries = list(directory.walk()) + [directory[name] for name in names_of(directory)[:10]]
    return ([(entry.name.text, values_of(entry)) for entry in entries], len(directory), directory.indexes,
            directory.undoable)


class TreeTest(unittest.TestCase):
    """What the tests of directories have in common."""

    def refused(self, expected, directory, word, *arguments, **options):
        """A method of a directory raises an error, given as (name, attributes), and changes nothing."""
        before = facts_of(directory)
        self.assertEqual(outcome(getattr(directory, word), *arguments, **options), expected)
        self.assertEqual(facts_of(directory), before)

    def holds(self, entry, **attributes):
        """An entry has values, those of other attributes apart."""
        self.assertEqual({word: entry[word] for word in attributes}, attributes)


def no_entry(missing, matched=""):
    return ("NoEntry", {"missing": missing, "matched": matched})


def given(error, value):
    """The outcome of an error with the attribute given."""
    return (error, {"given": value})
