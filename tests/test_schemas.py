"""Points [4], [5], [6], [7], and the interface of dirservice/schemas.py but for the method check."""

import unittest

from dirservice.entries import Entry
from dirservice.errors import BadSchema, UnknownAttribute, UnknownClass
from dirservice.names import Name
from dirservice.schemas import Attribute, ObjectClass, Schema
from tests.samples import ATTRIBUTES, CLASSES, schema

ANYTHING = (None, True, False, 0, 1, -1, 1.5, "", "x y", (), ("cn",), [], ["cn"], {}, {"cn": 1}, b"cn", object(),
            Name("cn=a"), Attribute("cn"), ObjectClass("cn"), Attribute, str)
NO_WORDS = ANYTHING + ("self", "CN", "c1", "c_n", "cn ", "cn\n", "abcdefghijklm")
BOSS = Attribute("boss", "name", tracked=True)
CN = Attribute("cn")
OU = Attribute("ou")
TEAM = Attribute("team", "name", mirror="boss")


class TestDefinitions(unittest.TestCase):

    def test_attribute_properties(self):
        one = Attribute("cn")
        self.assertEqual((one.word, one.syntax, one.single, one.tracked, one.mirror), ("cn", "text", False, False, None))
        one = Attribute("a", "name", single=1, tracked=2, mirror=3)
        self.assertEqual((one.word, one.syntax, one.single, one.tracked, one.mirror), ("a", "name", 1, 2, 3))
        one = Attribute(mirror="m", syntax="s", word="w")
        self.assertEqual((one.word, one.syntax, one.mirror), ("w", "s", "m"))

    def test_class_properties(self):
        one = ObjectClass("unit")
        self.assertEqual((one.word, one.role, one.above, one.must, one.may, one.under),
                         ("unit", "structural", None, (), (), None))
        one = ObjectClass(under=6, may=5, must=4, above=3, role=2, word=1)
        self.assertEqual((one.word, one.role, one.above, one.must, one.may, one.under), (1, 2, 3, 4, 5, 6))

    def test_parameters_by_name_only(self):
        with self.assertRaises(TypeError):
            Attribute("cn", "text", False)
        with self.assertRaises(TypeError):
            ObjectClass("unit", "structural")

    def test_nothing_is_checked(self):
        for value in NO_WORDS:
            with self.subTest(value):
                one = Attribute(value, value, single=value, tracked=value, mirror=value)
                self.assertIs(one.word, value)
                self.assertIs(one.syntax, value)
                self.assertIs(one.single, value)
                self.assertIs(one.tracked, value)
                self.assertIs(one.mirror, value)
                one = ObjectClass(value, role=value, above=value, must=value, may=value, under=value)
                for told in (one.word, one.role, one.above, one.must, one.may, one.under):
                    self.assertIs(told, value)


class TestBadSchema(unittest.TestCase):

    def refused(self, part, place, attributes, classes=()):
        with self.assertRaises(BadSchema) as caught:
            Schema(attributes, classes)
        self.assertEqual((caught.exception.part, caught.exception.place), (part, place))

    def wrong_attribute(self, wrong, *others):
        """Wrong at every place among other definitions."""
        self.refused("attributes", 0, (wrong, *others))
        self.refused("attributes", 2, (CN, BOSS, wrong, *others))
        self.refused("attributes", 1, (BOSS, wrong, None, *others), None)

    def wrong_class(self, wrong, *earlier):
        attributes = (CN, OU, BOSS, TEAM)
        self.refused("classes", len(earlier), attributes, (*earlier, wrong))
        self.refused("classes", len(earlier), attributes, (*earlier, wrong, None, ObjectClass("later")))
        self.refused("classes", len(earlier) + 1, attributes, (ObjectClass("first"), *earlier, wrong))

    def test_no_tuples(self):
        for value in ANYTHING + ([CN], {CN.word: CN}):
            if not isinstance(value, tuple):
                with self.subTest(value):
                    self.refused("attributes", None, value, ())
                    self.refused("attributes", None, value, value)
                    self.refused("attributes", 0, (None,), value)
                    self.refused("classes", None, (CN,), value)
        self.refused("attributes", 1, (CN, None), (None,))
        self.refused("classes", 0, (CN,), (None,))

    def test_attributes_that_are_no_definitions(self):
        for value in ANYTHING:
            if not isinstance(value, Attribute):
                with self.subTest(value):
                    self.wrong_attribute(value)

    def test_words_of_attributes(self):
        for value in NO_WORDS + ("kind", "ref", "dup"):
            with self.subTest(value):
                self.wrong_attribute(Attribute(value))

    def test_words_of_attributes_twice(self):
        self.refused("attributes", 1, (CN, CN))
        self.refused("attributes", 2, (CN, OU, Attribute("cn", "exact")))
        self.refused("attributes", 3, (BOSS, OU, CN, Attribute("boss"), Attribute("ou")))

    def test_syntaxes(self):
        for value in ANYTHING + ("Text", "string", "text ", "names"):
            with self.subTest(value):
                self.wrong_attribute(Attribute("x", value))
        for syntax in ("text", "exact", "integer", "truth", "name"):
            self.assertEqual(Schema((Attribute("x", syntax),), ()).syntax_of("x"), syntax)

    def test_single_and_tracked_are_bools(self):
        for value in ANYTHING:
            if not isinstance(value, bool):
                with self.subTest(value):
                    self.wrong_attribute(Attribute("x", single=value))
                    self.wrong_attribute(Attribute("x", tracked=value))
                    self.wrong_attribute(Attribute("x", "name", single=value))
                    self.wrong_attribute(Attribute("x", "name", tracked=value))
                    self.wrong_attribute(Attribute("x", "name", single=value, tracked=True))

    def test_tracked_attributes_and_mirrors_have_names(self):
        for syntax in ("text", "exact", "integer", "truth"):
            with self.subTest(syntax):
                self.wrong_attribute(Attribute("x", syntax, tracked=True))
                self.refused("attributes", 1, (BOSS, Attribute("x", syntax, mirror="boss")))
        self.assertIs(Schema((Attribute("x", "name", tracked=True, single=True),), ()).is_tracked("x"), True)

    def test_mirrors_are_neither_single_nor_tracked(self):
        self.refused("attributes", 1, (BOSS, Attribute("x", "name", mirror="boss", single=True)))
        self.refused("attributes", 1, (BOSS, Attribute("x", "name", mirror="boss", tracked=True)))
        self.refused("attributes", 0, (Attribute("x", "name", mirror="x", tracked=True),))

    def test_mirrors_of_what_is_not_tracked(self):
        for value in NO_WORDS + ("cn", "link", "kind", "ref", "dup", "none"):
            if value is not None:
                with self.subTest(value):
                    self.refused("attributes", 3, (BOSS, CN, Attribute("link", "name"), Attribute("x", "name", mirror=value)))
        self.refused("attributes", 0, (TEAM, CN))
        self.refused("attributes", 0, (TEAM, Attribute("boss", "name")))
        self.refused("attributes", 0, (TEAM, Attribute("boss", "name", tracked=1)))
        self.refused("attributes", 0, (TEAM, None, "boss", ObjectClass("boss")))
        self.refused("attributes", 0, (Attribute("team", "name", mirror="team"), BOSS))
        self.refused("attributes", 0, (Attribute("x", "name", mirror=5), Attribute(5, "name", tracked=True)))
        self.refused("attributes", 2, (BOSS, TEAM, Attribute("more", "name", mirror="team")))

    def test_a_mirror_may_stand_before_its_tracked_attribute(self):
        self.assertEqual(Schema((TEAM, CN, BOSS), ()).mirror_of("team"), "boss")
        # The tracked attribute is there, though it is itself wrong at its own place.
        self.refused("attributes", 1, (TEAM, Attribute("boss", "text", tracked=True)))
        self.refused("attributes", 1, (Attribute("x", "name", mirror=""), Attribute("", "name", tracked=True)))
        self.refused("attributes", 2, (TEAM, BOSS, BOSS))

    def test_several_mirrors_of_one_attribute(self):
        one = Schema((BOSS, TEAM, Attribute("crew", "name", mirror="boss")), ())
        self.assertEqual((one.mirror_of("team"), one.mirror_of("crew")), ("boss", "boss"))

    def test_classes_that_are_no_definitions(self):
        for value in ANYTHING:
            if not isinstance(value, ObjectClass):
                with self.subTest(value):
                    self.wrong_class(value)

    def test_words_of_classes(self):
        for value in NO_WORDS + ("referral",):
            with self.subTest(value):
                self.wrong_class(ObjectClass(value))
        self.wrong_class(ObjectClass("unit"), ObjectClass("unit"))
        self.wrong_class(ObjectClass("unit", role="abstract"), ObjectClass("unit"), ObjectClass("other"))

    def test_words_of_attributes_and_classes_are_independent(self):
        words = ("kind", "ref", "dup", "cn")
        one = Schema((CN, Attribute("referral")), tuple([ObjectClass(word) for word in words]))
        self.assertEqual([one.classes_above(word) for word in words], [(word,) for word in words])
        self.assertEqual(one.syntax_of("referral"), "text")

    def test_roles(self):
        for value in ANYTHING + ("Structural", "struct", "abstract "):
            with self.subTest(value):
                self.wrong_class(ObjectClass("x", role=value))
        for role in ("abstract", "structural", "auxiliary"):
            self.assertEqual(Schema((), (ObjectClass("x", role=role),)).classes[0].role, role)

    def test_classes_above_that_are_not_earlier(self):
        for value in NO_WORDS + ("referral", "x", "none", "later", "cn", "kind"):
            if value is not None:
                with self.subTest(value):
                    self.wrong_class(ObjectClass("x", above=value), ObjectClass("unit"))
        self.refused("classes", 0, (), (ObjectClass("x", above="later"), ObjectClass("later")))

    def test_classes_above_that_do_not_fit(self):
        roles = ("abstract", "structural", "auxiliary")
        fitting = (("abstract", "abstract"), ("structural", "structural"), ("structural", "abstract"),
                   ("auxiliary", "auxiliary"), ("auxiliary", "abstract"))
        for role in roles:
            for above in roles:
                with self.subTest(role, above=above):
                    classes = (ObjectClass("a", role=above), ObjectClass("b", role=role, above="a"))
                    if (role, above) in fitting:
                        self.assertEqual(Schema((), classes).classes_above("b"), ("b", "a"))
                    else:
                        self.refused("classes", 1, (), classes)

    def test_must_may_and_under_are_tuples(self):
        for value in ANYTHING + ("cn", ["cn"], {"cn": 1}):
            if not isinstance(value, tuple):
                with self.subTest(value):
                    self.wrong_class(ObjectClass("x", must=value))
                    self.wrong_class(ObjectClass("x", may=value))
                    if value is not None:
                        self.wrong_class(ObjectClass("x", under=value))
        self.wrong_class(ObjectClass("x", under=["x"]))
        self.wrong_class(ObjectClass("x", under="x"))

    def test_members_of_under(self):
        for value in NO_WORDS + ("later", "referral", "cn", "kind", "none"):
            with self.subTest(value):
                self.wrong_class(ObjectClass("x", under=(value,)), ObjectClass("unit"))
                self.wrong_class(ObjectClass("x", under=("x", "unit", value)), ObjectClass("unit"))
        self.refused("classes", 0, (), (ObjectClass("x", under=("later",)), ObjectClass("later")))
        under = ("x", "unit", "unit", "tag", "top")
        classes = (ObjectClass("top", role="abstract"), ObjectClass("tag", role="auxiliary"), ObjectClass("unit"),
                   ObjectClass("x", under=under))
        self.assertEqual(Schema((), classes).classes[3].under, under)
        self.assertEqual(Schema((), (ObjectClass("x", under=()),)).classes[0].under, ())

    def test_members_of_must_and_may(self):
        for value in NO_WORDS + ("none", "unit", "x"):
            with self.subTest(value):
                self.wrong_class(ObjectClass("x", must=(value,)), ObjectClass("unit"))
                self.wrong_class(ObjectClass("x", may=(value,)), ObjectClass("unit"))
                self.wrong_class(ObjectClass("x", must=("cn", value), may=("ou",)), ObjectClass("unit"))
                self.wrong_class(ObjectClass("x", must=("cn",), may=("ou", value)), ObjectClass("unit"))

    def test_mirrors_in_must_and_may(self):
        self.wrong_class(ObjectClass("x", must=("team",)))
        self.wrong_class(ObjectClass("x", must=("cn", "team"), may=("boss",)))
        one = Schema((BOSS, TEAM), (ObjectClass("x", must=("boss",), may=("team",)),))
        self.assertEqual(one.classes[0].may, ("team",))

    def test_members_of_must_and_may_twice(self):
        self.wrong_class(ObjectClass("x", must=("cn", "cn")))
        self.wrong_class(ObjectClass("x", may=("cn", "ou", "cn")))
        self.wrong_class(ObjectClass("x", must=("cn",), may=("cn",)))
        self.wrong_class(ObjectClass("x", must=("ou", "cn"), may=("boss", "ou")))
        self.wrong_class(ObjectClass("x", may=("team", "team")))

    def test_own_attributes_can_be_members(self):
        one = Schema((), (ObjectClass("x", must=("kind", "dup"), may=("ref",)),))
        entry = Entry("cn=a", kind=("x",))
        self.assertEqual(one.required(entry), ("dup", "kind"))
        self.assertEqual(one.allowed(entry), ("dup", "kind", "ref"))

    def test_a_class_may_repeat_what_one_above_has(self):
        classes = (ObjectClass("a", must=("cn",), may=("ou",)), ObjectClass("b", above="a", must=("ou",), may=("cn",)))
        self.assertEqual(Schema((CN, OU), classes).required(Entry("", kind=("b",))), ("cn", "kind", "ou"))

    def test_first_of_several(self):
        wrong = Attribute("x", "none")
        self.refused("attributes", 1, (CN, wrong, None), (None,))
        self.refused("attributes", 2, (CN, OU, CN, wrong), None)
        self.refused("classes", 1, (CN, OU), (ObjectClass("a"), ObjectClass("b", above="c"), None))
        self.refused("classes", 0, (CN, OU), (ObjectClass("a", must=("none",)), ObjectClass("a")))


class TestSchema(unittest.TestCase):

    def test_tuples(self):
        one = schema()
        self.assertIs(one.attributes, ATTRIBUTES)
        self.assertIs(one.classes, CLASSES)
        one = Schema(classes=CLASSES, attributes=ATTRIBUTES)
        self.assertEqual((one.attributes, one.classes), (ATTRIBUTES, CLASSES))
        self.assertEqual((Schema((), ()).attributes, Schema((), ()).classes), ((), ()))

    def test_questions_about_attributes(self):
        one = schema()
        for word, syntax, single, tracked, mirror in (
            ("cn", "text", False, False, None),
            ("code", "exact", False, False, None),
            ("age", "integer", True, False, None),
            ("open", "truth", False, False, None),
            ("link", "name", False, False, None),
            ("boss", "name", False, True, None),
            ("team", "name", False, False, "boss"),
            ("kind", "exact", False, False, None),
            ("ref", "exact", False, False, None),
            ("dup", "exact", True, False, None),
        ):
            with self.subTest(word):
                self.assertEqual(one.syntax_of(word), syntax)
                self.assertIs(one.is_single(word), single)
                self.assertIs(one.is_tracked(word), tracked)
                self.assertEqual(one.mirror_of(word), mirror)
        self.assertEqual(one.syntax_of(word="cn"), "text")
        self.assertIs(one.is_single(word="age"), True)
        self.assertIs(one.is_tracked(word="boss"), True)
        self.assertEqual(one.mirror_of(word="team"), "boss")

    def test_every_schema_has_its_own_attributes_and_class(self):
        one = Schema((), ())
        self.assertEqual([one.syntax_of(word) for word in ("kind", "ref", "dup")], ["exact"] * 3)
        self.assertEqual([one.is_single(word) for word in ("kind", "ref", "dup")], [False, False, True])
        self.assertEqual(one.classes_above("referral"), ("referral",))

    def test_unknown_attributes(self):
        one = schema()
        for word in NO_WORDS + ("none", "person", "referral"):
            for function in (one.syntax_of, one.is_single, one.is_tracked, one.mirror_of):
                with self.subTest(word):
                    with self.assertRaises(UnknownAttribute) as caught:
                        function(word)
                    self.assertIs(caught.exception.attribute, word)

    def test_classes_above(self):
        one = schema()
        for word, expected in (("top", ("top",)), ("person", ("person", "thing")), ("unit", ("unit",)),
                               ("chief", ("chief", "person", "thing")), ("never", ("never", "top")),
                               ("label", ("label", "tag")), ("referral", ("referral",))):
            self.assertEqual(one.classes_above(word), expected)
        self.assertEqual(one.classes_above(word="tag"), ("tag",))

    def test_unknown_classes(self):
        for word in NO_WORDS + ("none", "cn", "kind"):
            with self.subTest(word):
                with self.assertRaises(UnknownClass) as caught:
                    schema().classes_above(word)
                self.assertIs(caught.exception.given, word)

    def test_equal_schemas(self):
        one = Schema((CN, BOSS, TEAM), (ObjectClass("a", must=("cn",)), ObjectClass("b", above="a", under=("a",))))
        other = Schema((Attribute("cn", "text"), Attribute("boss", "name", tracked=True, single=False),
                        Attribute("team", "name", mirror="boss")),
                       (ObjectClass("a", must=("cn",), role="structural"),
                        ObjectClass("b", above="a", under=("a",), may=())))
        self.assertIs(one == other, True)
        self.assertIs(one != other, False)
        self.assertIs(schema() == schema(), True)
        self.assertIs(Schema((), ()) == Schema((), ()), True)

    def test_schemas_with_other_attributes(self):
        one = Schema((CN, BOSS), ())
        for attributes in ((BOSS, CN), (CN,), (CN, BOSS, OU), (CN, BOSS, TEAM), (OU, BOSS),
                           (Attribute("cn", "exact"), BOSS), (Attribute("cn", single=True), BOSS),
                           (CN, Attribute("boss", "name")), (CN, Attribute("boss", "name", tracked=True, single=True)), ()):
            self.assertIs(one == Schema(attributes, ()), False)
            self.assertIs(one != Schema(attributes, ()), True)
        attributes = (BOSS, Attribute("head", "name", tracked=True))
        self.assertIs(Schema((*attributes, TEAM), ()) == Schema((*attributes, Attribute("team", "name", mirror="head")), ()),
                      False)

    def test_schemas_with_other_classes(self):
        first = ObjectClass("a", role="abstract")
        second = ObjectClass("c", role="abstract")
        attributes = (CN, OU)

        def made(word="b", role="abstract", above="a", must=("cn", "ou"), may=(), under=("a", "b")):
            last = ObjectClass(word, role=role, above=above, must=must, may=may, under=under)
            return Schema(attributes, (first, second, last))

        self.assertIs(made() == made(), True)
        for other in (made(word="x", under=("a", "x")), made(role="auxiliary"), made(above="c"), made(above=None),
                      made(must=("ou", "cn")), made(must=("cn",), may=("ou",)), made(must=("cn",)),
                      made(under=("b", "a")), made(under=("a",)), made(under=()), made(under=None)):
            self.assertIs(made() == other, False)
        self.assertIs(made(must=(), may=("cn", "ou")) == made(must=(), may=("ou", "cn")), False)
        self.assertIs(Schema((), (first, second)) == Schema((), (second, first)), False)
        self.assertIs(Schema((), (first,)) == Schema((), (first, second)), False)

    def test_a_schema_equals_nothing_of_another_kind(self):
        one = Schema((CN,), ())
        for other in ((CN,), ((CN,), ()), None, 0, "cn", CN, object()):
            self.assertIs(one == other, False)
            self.assertIs(other == one, False)
        for one in (Attribute("cn"), ObjectClass("cn")):
            for other in ("cn", ("cn",), None, 0):
                self.assertIs(one == other, False)


class TestEntries(unittest.TestCase):
    """The methods belongs, required and allowed."""

    def rows(self):
        free = ("age", "boss", "cn", "code", "dup", "kind", "link", "luck", "mail", "open", "ou", "ref")
        return (
            ((), (), ("kind",), ("dup", "kind")),
            (("none",), (), ("kind",), ("dup", "kind")),
            (("none", "Unit", "cn", "unit "), (), ("kind",), ("dup", "kind")),
            (("unit",), ("unit",), ("kind", "ou"), ("dup", "kind", "mail", "ou")),
            (("none", "unit"), ("unit",), ("kind", "ou"), ("dup", "kind", "mail", "ou")),
            (("thing",), ("thing",), ("kind",), ("dup", "kind", "link", "luck")),
            (("person",), ("person", "thing"), ("cn", "kind"),
             ("age", "boss", "cn", "code", "dup", "kind", "link", "luck", "open")),
            (("chief", "person"), ("chief", "person", "thing"), ("cn", "kind", "mail"),
             ("age", "boss", "cn", "code", "dup", "kind", "link", "luck", "mail", "open")),
            (("unit", "label"), ("label", "tag", "unit"), ("kind", "luck", "ou"),
             ("dup", "kind", "luck", "mail", "ou")),
            (("never", "chief"), ("chief", "never", "person", "thing", "top"), ("cn", "kind", "mail"),
             ("age", "boss", "cn", "code", "dup", "kind", "link", "luck", "mail", "open")),
            (("referral",), ("referral",), ("kind", "ref"), free),
            (("referral", "unit"), ("referral", "unit"), ("kind", "ou", "ref"), free),
        )

    def test_belongs_required_allowed(self):
        one = schema()
        for kinds, belongs, required, allowed in self.rows():
            with self.subTest(kinds):
                entry = Entry("cn=a", kind=kinds)
                self.assertEqual(one.belongs(entry), belongs)
                self.assertEqual(one.required(entry), required)
                self.assertEqual(one.allowed(entry), allowed)
                self.assertEqual(one.belongs(entry=entry), belongs)
                self.assertEqual(one.required(entry=entry), required)
                self.assertEqual(one.allowed(entry=entry), allowed)

    def test_classes_twice_count_once(self):
        entry = Entry("cn=a", kind=("person", "person", "thing"))
        self.assertEqual(schema().belongs(entry), ("person", "thing"))

    def test_other_values_do_not_matter(self):
        entry = Entry("cn=a", kind=("unit",), wrong=("x",), cn=(" ",))
        self.assertEqual(schema().belongs(entry), ("unit",))
        self.assertEqual(schema().allowed(entry), ("dup", "kind", "mail", "ou"))

    def test_referral_may_have_all_but_mirrors(self):
        entry = Entry("cn=a", kind=("referral",))
        self.assertEqual(Schema((), ()).allowed(entry), ("dup", "kind", "ref"))
        self.assertEqual(Schema((BOSS, TEAM, CN), ()).allowed(entry), ("boss", "cn", "dup", "kind", "ref"))


if __name__ == "__main__":
    unittest.main()
