"""Point [8], rules 1 to 8, and the method check of Schema."""

import unittest

from dirservice.entries import Entry
from dirservice.schemas import Attribute, ObjectClass, Schema
from tests.samples import outcome, person, schema, unit, words_of

UNKNOWN = ("UnknownAttribute", {"attribute": "wrong"})
KINDS = ("BadClasses", {})
REFERRAL = Entry("ou=a", kind=("referral",), ou=("a",), ref=("west",))


def texts(count):
    """That many values that are not equal."""
    return tuple([f"v{number}" for number in range(count)])


class Rules(unittest.TestCase):
    """What the tests of all rules need."""

    def check(self, expected, entry, above=None, rules=None):
        told = outcome((rules or schema()).check, entry, above)
        self.assertEqual(told, expected)


class TestCheck(Rules):

    def test_entries_that_follow_the_rules(self):
        self.check(None, unit())
        self.check(None, unit(), unit())
        self.check(None, unit(mail=("m",), dup=("x",)), person())
        self.check(None, person(), unit())
        self.check(None, REFERRAL)
        full = person(kind=("person", "tag"), age=("5",), luck=("1", "-2"), open=("TRUE",), boss=("cn=x",),
                      link=("cn=a,ou=b", "cn=c"), code=(" a", "A", "a"), dup=("1-w",))
        self.check(None, full, unit())
        self.assertIsNone(schema().check(entry=full, above=unit()))
        self.assertIsNone(schema().check(unit()))


class TestRule1(Rules):

    def test_unknown_attributes(self):
        self.check(UNKNOWN, unit(wrong=("x",)))
        self.check(UNKNOWN, unit(wrong=("x",), wronger=("y",)))
        self.check(("UnknownAttribute", {"attribute": "person"}), unit(person=("x",)))

    def test_mirrors(self):
        self.check(("MirrorGiven", {"attribute": "team"}), person(team=("cn=x",)), unit())
        self.check(("MirrorGiven", {"attribute": "team"}), unit(team=("cn=x",)))

    def test_first_attribute_decides(self):
        self.check(("MirrorGiven", {"attribute": "team"}), unit(wrong=("x",), team=("cn=x",)))
        self.check(("UnknownAttribute", {"attribute": "none"}), unit(team=("cn=x",), none=("x",)))


class TestRule2(Rules):

    def test_no_kind(self):
        self.check(("UnknownClass", {"given": ""}), unit(kind=()))

    def test_unknown_classes(self):
        for word in ("none", "Unit", "unit ", " ", "cn", "kind", "x" * 61):
            with self.subTest(word):
                self.check(("UnknownClass", {"given": word}), unit(kind=("unit", word)))
                self.check(("UnknownClass", {"given": word}), unit(kind=(word, "none", "unit")))

    def test_unknown_classes_come_before_bad_ones(self):
        self.check(("UnknownClass", {"given": "none"}), unit(kind=("unit", "person", "none")))
        self.check(("UnknownClass", {"given": "none"}), unit(kind=("tag", "none")))

    def test_no_structural_class(self):
        for kinds in (("top",), ("thing",), ("tag",), ("label", "tag"), ("top", "tag")):
            with self.subTest(kinds):
                self.check(KINDS, unit(kind=kinds))

    def test_several_structural_classes(self):
        for kinds in (("unit", "person"), ("person", "unit"), ("unit", "referral"), ("chief", "guest"),
                      ("chief", "guest", "person"), ("person", "chief", "unit"), ("never", "unit")):
            with self.subTest(kinds):
                self.check(KINDS, unit(kind=kinds))

    def test_structural_classes_above_one_of_them(self):
        for kinds in (("guest", "person"), ("person", "guest"), ("person", "thing", "guest"), ("thing", "person"),
                      ("person", "top"), ("tag", "person"), ("person", "tag")):
            with self.subTest(kinds):
                self.check(None, person(kind=kinds, luck=("1",)), unit())

    def test_a_class_twice_is_no_bad_class(self):
        self.check(("ValueTaken", {"attribute": "kind", "item": "person"}), person(kind=("person", "person")), unit())


class TestRule3(Rules):

    def test_not_allowed(self):
        self.check(("NotAllowed", {"attribute": "cn"}), unit(cn=("x",)))
        self.check(("NotAllowed", {"attribute": "mail"}), person(mail=("x",)), unit())
        self.check(("NotAllowed", {"attribute": "ref"}), unit(ref=("west",)))

    def test_first_attribute_decides(self):
        self.check(("NotAllowed", {"attribute": "age"}), unit(luck=("1",), cn=("x",), age=("1",)))

    def test_other_classes_allow(self):
        self.check(None, person(kind=("person", "label"), mail=("x",), luck=("1",)), unit())
        self.check(None, unit(dup=("x",)))


class TestRule4(Rules):

    def test_missing(self):
        self.check(("Missing", {"attribute": "ou"}), unit(ou=()))
        self.check(("Missing", {"attribute": "luck"}), unit(kind=("unit", "tag")))
        self.check(("Missing", {"attribute": "ref"}), REFERRAL.with_values(ref=()))

    def test_first_attribute_decides(self):
        self.check(("Missing", {"attribute": "luck"}), unit(kind=("unit", "label"), ou=()))
        self.check(("Missing", {"attribute": "cn"}), person(kind=("chief",), cn=()), unit())
        self.check(("Missing", {"attribute": "mail"}), person(kind=("chief",)), unit())


class TestRule5(Rules):

    def test_twenty_values_and_more(self):
        self.check(None, unit(mail=texts(20)))
        self.check(("TooManyValues", {"attribute": "mail"}), unit(mail=texts(21)))
        self.check(("TooManyValues", {"attribute": "kind"}), unit(kind=("unit",) * 21))

    def test_single(self):
        self.check(None, person(age=("1",)), unit())
        self.check(("TooManyValues", {"attribute": "age"}), person(age=("1", "2")), unit())
        self.check(("TooManyValues", {"attribute": "dup"}), unit(dup=("1", "2")))
        self.check(None, person(luck=("1", "2")), unit())

    def test_first_attribute_decides(self):
        self.check(("TooManyValues", {"attribute": "age"}), person(code=texts(21), age=("1", "2")), unit())
        self.check(("TooManyValues", {"attribute": "dup"}), unit(ou=texts(21), dup=("1", "2"), mail=texts(22)))


class TestRule6(Rules):

    def test_values_that_are_not_valid(self):
        for word, value in (("cn", " "), ("cn", "x" * 61), ("code", "x" * 61), ("age", "-0"), ("age", "01"), ("luck", "x"),
                            ("luck", "1" * 31), ("open", "true"), ("boss", "cn= a"), ("link", "cn=a,"), ("link", "a")):
            with self.subTest(word, value=value):
                self.check(("BadValue", {"attribute": word, "item": value}), person(**{word: (value,)}), unit())

    def test_equal_values(self):
        for word, values in (("cn", ("Ann", "b", " ANN ")), ("code", ("a", "A", "a")), ("luck", ("1", "2", "1")),
                             ("link", ("cn=a+ou=b", "cn=x", "ou=B+cn=A")), ("boss", ("cn=a b", "cn=c", "cn=A  b")),
                             ("open", ("TRUE", "FALSE", "TRUE"))):
            with self.subTest(word):
                self.check(("ValueTaken", {"attribute": word, "item": values[2]}), person(**{word: values}), unit())
                self.check(None, person(**{word: values[:2]}), unit())

    def test_the_first_value_decides(self):
        self.check(("BadValue", {"attribute": "luck", "item": "x"}), person(luck=("1", "x", "y", "1")), unit())
        self.check(("ValueTaken", {"attribute": "luck", "item": "1"}), person(luck=("1", "2", "1", "x", "2")), unit())
        self.check(("ValueTaken", {"attribute": "cn", "item": "ANN"}), person(cn=("ann", "b", "ANN", "Ann", " ")), unit())

    def test_the_first_attribute_decides(self):
        entry = person(code=("a", "a"), age=("x",), luck=("y",))
        self.check(("BadValue", {"attribute": "age", "item": "x"}), entry, unit())
        self.check(("ValueTaken", {"attribute": "code", "item": "a"}), entry.with_values(age=("1",)), unit())
        self.check(("BadValue", {"attribute": "luck", "item": "y"}), entry.with_values(age=(), code=()), unit())

    def test_values_of_ref(self):
        for value in ("west", "w", "westwest", "west/", "west/ou=x", "west/cn=a\\,b,ou=X  y", "selfs", "west/cn=a/b",
                      "west/cn=/", "w/" + "cn=" + "x" * 55):
            with self.subTest(value):
                self.check(None, REFERRAL.with_values(ref=(value,)))
        for value in ("West", "westwestw", "self", "self/", "west1", " west", "west ", " ", "/", "/ou=x", "west/ou", "west//",
                      "west/ou= x", "west/ou=x,", "west/ou=x/,", "west ou=x", "ou=x", "west/ ", "west /ou=x", "west,east",
                      "west\\/", "w/" + "cn=" + "x" * 56, "x" * 61, "west/ou=x+ou=y"):
            with self.subTest(value):
                self.check(("BadValue", {"attribute": "ref", "item": value}), REFERRAL.with_values(ref=(value,)))
                entry = REFERRAL.with_values(ref=("east", value, "east", "?"))
                self.check(("BadValue", {"attribute": "ref", "item": value}), entry)

    def test_values_of_ref_are_exact(self):
        self.check(None, REFERRAL.with_values(ref=("west", "west/", "west/ou=x", "west/ou=X")))
        self.check(("ValueTaken", {"attribute": "ref", "item": "west"}), REFERRAL.with_values(ref=("west", "east", "west")))


class TestRule7(Rules):

    def test_values_of_the_relative_name(self):
        self.check(None, unit().renamed("ou=A,o=else"))
        self.check(None, unit(ou=("b", "x  Y", "c")).renamed("ou=\\ X y"))
        self.check(None, unit(mail=("M",)).renamed("mail=m+ou=A"))
        self.check(None, unit().renamed("kind=unit"))
        self.check(None, unit().renamed(""))
        self.check(None, person(luck=("5",), age=("-7",)).renamed("luck=5+age=-7,ou=a"), unit())
        self.check(None, person(open=("TRUE",)).renamed("open=TRUE,ou=a"), unit())
        self.check(None, person(link=("cn=A,ou=b",)).renamed("link=cn\\=a\\,ou\\=B,ou=a"), unit())

    def test_other_values(self):
        for name, word in (("ou=b", "ou"), ("ou=aa", "ou"), ("mail=a", "mail"), ("none=a", "none"), ("team=cn\\=x", "team"),
                           ("cn=a", "cn"), ("kind=Unit", "kind"), ("kind=person", "kind"), ("dup=a", "dup")):
            with self.subTest(name):
                self.check(("NotNamed", {"attribute": word}), unit().renamed(name))

    def test_values_are_equal_by_the_syntax(self):
        self.check(("NotNamed", {"attribute": "code"}), person(code=("A",)).renamed("code=a,ou=a"), unit())
        self.check(("NotNamed", {"attribute": "code"}), person(code=("a ",)).renamed("code=a,ou=a"), unit())
        self.check(None, person(code=("A ",)).renamed("code=A\\ ,ou=a"), unit())
        self.check(("NotNamed", {"attribute": "luck"}), person(luck=("5",)).renamed("luck=05,ou=a"), unit())
        self.check(("NotNamed", {"attribute": "open"}), person(open=("TRUE",)).renamed("open=true,ou=a"), unit())

    def test_tracked_attributes_and_mirrors(self):
        entry = person(boss=("cn=x",)).renamed("boss=cn\\=x,ou=a")
        self.check(("NotNamed", {"attribute": "boss"}), entry, unit())
        self.check(("NotNamed", {"attribute": "team"}), person().renamed("team=cn\\=x,ou=a"), unit())

    def test_the_first_pair_decides(self):
        self.check(("NotNamed", {"attribute": "ou"}), unit(mail=("m",)).renamed("mail=M+ou=b+kind=none"))
        self.check(("NotNamed", {"attribute": "ou"}), unit().renamed("ou=b+mail=m"))
        self.check(("NotNamed", {"attribute": "mail"}), unit().renamed("mail=m+ou=b"))
        self.check(("NotNamed", {"attribute": "none"}), unit().renamed("ou=a+none=m+code=x"))


class TestRule8(Rules):

    def bad(self, text):
        return ("BadPlace", {"given": text})

    def test_nothing_above(self):
        self.check(self.bad("cn=Ann,ou=a"), person())
        self.check(self.bad("cn=Ann"), person().renamed("cn=Ann"))

    def test_another_class_above(self):
        self.check(self.bad("cn=Ann,ou=a"), person(), person())
        self.check(self.bad("cn=Ann,ou=a"), person(), REFERRAL)
        self.check(self.bad("cn=ANN,ou=A"), person().renamed("cn=ANN,ou=A"), Entry("ou=a", kind=("tag",)))
        self.check(self.bad("cn=Ann,ou=a"), person(), Entry("ou=a", kind=("none",)))
        self.check(self.bad("cn=Ann,ou=a"), person(), Entry("ou=a"))

    def test_the_name_of_what_is_above_does_not_matter(self):
        self.check(None, person(), unit().renamed("ou=b,ou=c"))
        self.check(None, person(), Entry("", kind=("unit",)))

    def test_what_is_above_need_not_follow_the_rules(self):
        self.check(None, person(), Entry("ou=a", kind=("none", "person", "unit"), wrong=("x",)))

    def test_what_is_above_belongs_to_classes_above_its_own(self):
        chief = Entry("cn=x", kind=("chief",))
        guest = Entry("cn=x", kind=("guest",))
        entry = person(kind=("chief",), mail=("m",))
        for above in (unit(), person(), chief, guest):
            self.check(None, entry, above)
        self.check(self.bad("cn=Ann,ou=a"), entry, REFERRAL)

    def test_the_nearest_class_decides(self):
        self.check(None, person(kind=("guest",)), unit())
        self.check(self.bad("cn=Ann,ou=a"), person(kind=("guest",)), person())
        self.check(self.bad("cn=Ann,ou=a"), person(kind=("guest", "person", "thing")))
        self.check(None, person(kind=("person", "chief"), mail=("m",)), person())

    def test_only_the_structural_class_decides(self):
        rules = Schema((), (ObjectClass("a", role="abstract", under=()), ObjectClass("x", role="auxiliary", under=("a",)),
                            ObjectClass("b"), ObjectClass("c", above="b", under=("x",))))
        self.check(None, Entry("", kind=("b", "a", "x")), None, rules)
        self.check(self.bad(""), Entry("", kind=("b", "c")), Entry("", kind=("b",)), rules)
        self.check(None, Entry("", kind=("b", "c")), Entry("", kind=("b", "x")), rules)

    def test_empty_under(self):
        for above in (None, unit(), person()):
            self.check(self.bad("cn=x"), Entry("cn=x", kind=("never",), cn=("x",)), above)
        rules = Schema((), (ObjectClass("a", under=()), ObjectClass("b", above="a"), ObjectClass("c", above="a", under=("c",))))
        self.check(self.bad(""), Entry("", kind=("b",)), Entry("", kind=("b",)), rules)
        self.check(None, Entry("", kind=("c",)), Entry("", kind=("c",)), rules)
        self.check(self.bad(""), Entry("", kind=("c",)), None, rules)

    def test_no_under(self):
        for above in (None, unit(), person(), REFERRAL):
            self.check(None, unit(), above)
            self.check(None, REFERRAL, above)


class TestTwoRules(Rules):

    def test_the_first_rule_decides(self):
        # Each row breaks its rule, and none that stands before it.
        rows = (
            ("wrong", ("x",), "UnknownAttribute"),
            ("kind", ("person", "none"), "UnknownClass"),
            ("mail", ("m",), "NotAllowed"),
            ("luck", (), "Missing"),
            ("age", ("1", "2"), "TooManyValues"),
            ("code", ("c", "c"), "ValueTaken"),
            ("cn", ("other",), "NotNamed"),
        )
        right = person(kind=("person", "tag"), luck=("1",))
        self.check(None, right, unit())
        for first, (word, values, name) in enumerate(rows):
            alone = right.with_values(**{word: values})
            self.assertEqual(outcome(schema().check, alone, unit())[0], name)
            self.assertEqual(outcome(schema().check, alone)[0], name)
            for other, values, _ in rows[first + 1:]:
                with self.subTest(word, other=other):
                    both = alone.with_values(**{other: values})
                    self.assertEqual(outcome(schema().check, both, unit())[0], name)
        self.assertEqual(outcome(schema().check, right)[0], "BadPlace")

    def test_all_rules(self):
        entry = Entry("none=x,ou=a", kind=("none",), cn=("a", "A"), age=("1", "2"), mail=texts(30), team=("x",), wrong=("w",))
        self.assertEqual(outcome(schema().check, entry), ("MirrorGiven", {"attribute": "team"}))

    def test_in_one_rule_words_are_ascending_whatever_the_order_given(self):
        words = words_of(12)
        rules = Schema(tuple([Attribute(word) for word in words]), (ObjectClass("a", may=tuple(words)),))
        for values in (words, words[::-1], words[5:] + words[:5]):
            given = {word: (" ",) for word in values}
            entry = Entry.of("", {**given, "kind": ("a",)})
            self.check(("BadValue", {"attribute": words[0], "item": " "}), entry, None, rules)
        entry = Entry.of("", {"kind": ("a",), **{word: (word,) for word in words}, words[7]: ("b", "B"), words[9]: (" ",)})
        self.check(("ValueTaken", {"attribute": words[7], "item": "B"}), entry, None, rules)

    def test_arguments_are_not_changed(self):
        entry, above = person(wrong=("x",)), unit()
        outcome(schema().check, entry, above)
        self.assertEqual(entry, person(wrong=("x",)))
        self.assertEqual(above, unit())


if __name__ == "__main__":
    unittest.main()
