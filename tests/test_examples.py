"""The lines of "Worked examples" in the document that speak of what is there."""

import unittest

from dirservice.directories import Directory
from dirservice.entries import Entry
from dirservice.errors import BadFilter, BadName, BadPlace, NoValue, TooManyValues
from dirservice.filters import Equal, read_filter
from dirservice.indexes import add_index, candidates
from dirservice.names import Name
from dirservice.schemas import Attribute, ObjectClass, Schema

TRACKED = Attribute("boss", "name", tracked=True)
ATTRIBUTES = (Attribute("cn"), Attribute("ou"), Attribute("age", "integer", single=True), TRACKED,
              Attribute("team", "name", mirror="boss"))
PERSON = ObjectClass("person", must=("cn",), may=("age", "boss", "team"), under=("unit",))


class TestExamples(unittest.TestCase):

    def setUp(self):
        self.schema = Schema(ATTRIBUTES, (ObjectClass("unit", must=("ou",)), PERSON))
        self.unit = Entry("ou=a", kind=("unit",), ou=("a",))
        self.ann = Entry("cn=Ann,ou=a", kind=("person",), cn=("Ann",), age=("30",))
        self.bob = Entry("cn=Bob,ou=a", kind=("person",), cn=("Bob",), boss=("cn=ann,ou=A",))

    def test_the_entries_follow_the_rules(self):
        self.assertIsNone(self.schema.check(self.unit))
        self.assertIsNone(self.schema.check(self.ann, self.unit))
        self.assertIsNone(self.schema.check(self.bob, self.unit))

    def test_an_entry_at_the_wrong_place(self):
        with self.assertRaises(BadPlace) as caught:
            self.schema.check(Entry("cn=Joe", kind=("person",), cn=("Joe",)))
        self.assertEqual(repr(caught.exception), "BadPlace('cn=Joe')")

    def test_a_referral(self):
        entry = Entry("ou=x", kind=("referral",), ou=("x",), ref=("west/ou=a",))
        self.assertIsNone(self.schema.check(entry))

    def test_names(self):
        self.assertEqual(Name("cn=A\\, b+ou=x,o=c").normal, "cn=a\\, b+ou=x,o=c")
        self.assertEqual(Name("cn=x,ou=a").moved(Name("ou=A"), Name("o=b")).text, "cn=x,o=b")

    def test_no_name(self):
        self.refused("BadName('cn=a, ou=b')", BadName, Name, "cn=a, ou=b")

    def refused(self, expected, error, function, *arguments):
        with self.assertRaises(error) as caught:
            function(*arguments)
        self.assertEqual(repr(caught.exception), expected)

    def test_a_directory(self):
        directory = Directory(self.schema, (self.unit, self.ann, self.bob))
        self.assertEqual((directory["cn=bob,ou=a"]["boss"], directory["cn=Ann,ou=a"]["team"]),
                         (("cn=Ann,ou=a",), ("cn=Bob,ou=a",)))
        self.assertEqual(directory.rename("cn=ann,ou=a", "cn=Eva"), ("cn=Ann,ou=a", "cn=Bob,ou=a", "cn=Eva,ou=a"))
        self.assertEqual((directory["cn=bob,ou=a"]["boss"], directory["cn=eva,ou=a"]["cn"]), (("cn=Eva,ou=a",), ("Eva",)))
        self.refused("TooManyValues('age')", TooManyValues, directory.modify, "cn=bob,ou=a",
                     (("add", "age", ("40",)), ("add", "age", ("41",))))
        self.refused("NoValue('age', '')", NoValue, directory.modify, "cn=bob,ou=a", (("increment", "age", 1),))
        joe = Entry("cn=Joe", kind=("person",), cn=("Joe",))
        self.refused("BadPlace('cn=Joe')", BadPlace, directory.add_entry, joe)
        self.assertEqual((directory.delete("cn=eva,ou=a"), directory.undoable), (("cn=Bob,ou=a", "cn=Eva,ou=a"), 2))
        self.assertIsNone(directory.undo())
        self.assertEqual(("CN=Eva,ou=a" in directory, "cn=EVA,ou=a" in directory), (False, True))
        self.assertIsNone(add_index(directory, "cn", "pieces"))
        self.assertEqual((candidates(directory, "(&(cn=*eva*)(age=30))"), candidates(directory, "(cn=e*a)")),
                         (("cn=Eva,ou=a",), None))

    def test_filters(self):
        self.assertIsNone(Equal("age", "x").result(self.schema, self.ann))
        self.assertIs(read_filter("(!(age=31))").result(self.schema, self.ann), True)
        self.assertEqual(read_filter("(&(cn=a)(&(cn=b)(cn=a)))").simplified().text, "(&(cn=a)(cn=b))")
        self.refused("BadFilter(4)", BadFilter, read_filter, "(cn=")

    def test_a_directory_with_a_referral(self):
        entry = Entry("ou=x", kind=("referral",), ou=("x",), ref=("west/ou=a",))
        self.assertEqual(len(Directory(self.schema, (entry,))), 1)


if __name__ == "__main__":
    unittest.main()
