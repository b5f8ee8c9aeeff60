"""The lines of "Worked examples" in the document that speak of what is there."""

import unittest

from dirservice.entries import Entry
from dirservice.errors import BadName, BadPlace
from dirservice.names import Name
from dirservice.schemas import Attribute, ObjectClass, Schema

TRACKED = Attribute("boss", "name", tracked=True)
ATTRIBUTES = (Attribute("cn"), Attribute("ou"), Attribute("age", "integer", single=True), TRACKED,
              Attribute("team", "name", mirror="boss"))
PERSON = ObjectClass("person", must=("cn",), may=("age", "boss", "team"), under=("unit",))


class TestExamples(unittest.TestCase):

    def setUp(self):
        self.schema = Schema(ATTRIBUTES, (ObjectClass("unit", must=("ou",)), PERSON))
        self.unit = Entry("ou=a", kind=("unit",), ou=("a",))
        self.ann = Entry("cn=Ann,ou=a", kind=("person",), cn=("Ann",), age=("30",))
        self.bob = Entry("cn=Bob,ou=a", kind=("person",), cn=("Bob",), boss=("cn=ann,ou=A",))

    def test_the_entries_follow_the_rules(self):
        self.assertIsNone(self.schema.check(self.unit))
        self.assertIsNone(self.schema.check(self.ann, self.unit))
        self.assertIsNone(self.schema.check(self.bob, self.unit))

    def test_an_entry_at_the_wrong_place(self):
        with self.assertRaises(BadPlace) as caught:
            self.schema.check(Entry("cn=Joe", kind=("person",), cn=("Joe",)))
        self.assertEqual(repr(caught.exception), "BadPlace('cn=Joe')")

    def test_a_referral(self):
        entry = Entry("ou=x", kind=("referral",), ou=("x",), ref=("west/ou=a",))
        self.assertIsNone(self.schema.check(entry))

    def test_names(self):
        self.assertEqual(Name("cn=A\\, b+ou=x,o=c").normal, "cn=a\\, b+ou=x,o=c")
        self.assertEqual(Name("cn=x,ou=a").moved(Name("ou=A"), Name("o=b")).text, "cn=x,o=b")

    def test_no_name(self):
        with self.assertRaises(BadName) as caught:
            Name("cn=a, ou=b")
        self.assertEqual(repr(caught.exception), "BadName('cn=a, ou=b')")


if __name__ == "__main__":
    unittest.main()
