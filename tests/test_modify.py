"""Points [13] and [14]: the deed modify."""

import unittest

from dirservice.directories import Directory
from dirservice.entries import Entry
from dirservice.names import Name
from tests.samples import words_of
from tests.trees import TreeTest, given, no_entry, person, referral, tree, tree_schema, unit

BOB, CID = "cn=Bob,ou=A", "cn=Cid,ou=B,ou=A"


def attribute(error, word, *item):
    """The outcome of an error with an attribute, and perhaps an item."""
    return (error, {"attribute": word, **({"item": item[0]} if item else {})})


class Modify(TreeTest):

    def changed(self, *changes, name=BOB, **expected):
        """Does changes to an entry of a new directory, and looks at its values."""
        directory = tree()
        directory.modify(name, changes)
        self.holds(directory[name], **expected)

    def wrong(self, expected, *changes, name=BOB):
        self.refused(expected, tree(), "modify", name, changes)


class TestForms(Modify):

    def test_arguments_and_results(self):
        directory = tree()
        self.assertEqual(directory.modify("cn=bob,ou=a", (("add", "mail", ("x",)),)), (BOB,))
        self.assertEqual(directory.modify(name=Name(BOB), changes=(("add", "mail", ("y",)),), manage=True), (BOB,))
        self.assertEqual(directory.modify(BOB, ()), ())
        self.assertEqual(directory.modify(BOB, (("replace", "mail", ("x", "y")),)), ())
        self.assertEqual(directory.modify(BOB, (("add", "age", ("5",)), ("delete", "age", ()))), ())
        self.assertEqual(directory.undoable, 5)
        self.holds(directory[BOB], mail=("x", "y"))

    def test_names_that_are_none(self):
        for name in ("cn=a, ou=b", None, True, 5, (), ["ou=z"], unit("ou=z"), b"ou=z"):
            self.refused(given("BadName", name), tree(), "modify", name, ())
            self.refused(given("BadName", name), tree(), "modify", name, None)

    def test_changes_that_are_no_tuple(self):
        for changes in (None, True, 5, "add", [], [("add", "mail", ("x",))], {}, {("add", "mail", ("x",))}):
            for name in (BOB, "ou=nowhere"):
                self.refused(("BadChange", {"place": None}), tree(), "modify", name, changes)

    def test_members_that_are_no_changes(self):
        right = ("add", "mail", ("x",))
        values = (None, True, 5, "x", ["x"], [], {}, ("",), ("x", "a\n"), (None,), (5,), (("x",),), (["x"],))
        words = ("", "Mail", "m1", "self", "abcdefghijklm", None, 5, ("mail",), b"mail")
        steps = (None, True, False, "1", "", (1,), ("1",), [1], 10 ** 30, -10 ** 30, 10 ** 999, {}, ())
        wrong = [None, True, 5, "add", [], {}, (), ("add",), ("add", "mail"), ("add", "mail", ("x",), None), list(right),
                 ("Add", "mail", ("x",)), ("", "mail", ("x",)), (None, "mail", ("x",)), (["add"], "mail", ("x",)),
                 ("move", "mail", ("x",)), (True, "mail", ()), ("increment", "luck"), ("increment", "luck", 1, 1)]
        wrong += [(sign, "mail", value) for sign in ("add", "delete", "replace") for value in values]
        wrong += [(sign, word, ("x",)) for sign in ("add", "delete", "replace") for word in words]
        wrong += [("increment", word, 1) for word in words] + [("increment", "luck", step) for step in steps]
        for change in wrong:
            with self.subTest(change):
                self.wrong(("BadChange", {"place": 0}), change)
                self.wrong(("BadChange", {"place": 1}), ("delete", "code", ()), change, None)
                self.refused(("BadChange", {"place": 2}), tree(), "modify", "ou=nowhere", (right, right, change))

    def test_no_entry(self):
        for missing, matched in (("", ""), ("ou=Q", ""), ("ou=Q,ou=b,ou=a", "ou=B,ou=A")):
            self.refused(no_entry(missing, matched), tree(), "modify", missing, ())
            self.refused(no_entry(missing, matched), tree(), "modify", Name(missing), (("delete", "mail", ()),))


class TestAddValues(Modify):

    def test_values_are_put_after_the_others(self):
        self.changed(("add", "luck", ("7", "1")), luck=("3", "-4", "7", "1"))
        self.changed(("add", "mail", ("b", "a")), mail=("b", "a"))
        self.changed(("add", "mail", ("b",)), ("add", "mail", ("a",)), mail=("b", "a"))
        self.changed(("add", "luck", ()), ("add", "mail", ()), luck=("3", "-4"), mail=())

    def test_values_that_are_there(self):
        self.wrong(attribute("ValueTaken", "luck", "3"), ("add", "luck", ("5", "3", "-4")))
        self.wrong(attribute("ValueTaken", "cn", "BOB "), ("add", "cn", ("x", "BOB ")))
        self.wrong(attribute("ValueTaken", "boss", "cn=ANN,ou=a"), ("add", "boss", ("cn=ANN,ou=a",)))
        self.wrong(attribute("ValueTaken", "mail", "X"), ("add", "mail", ("x", "X")))
        self.wrong(attribute("ValueTaken", "mail", " x"), ("add", "mail", ("x",)), ("add", "mail", (" x",)))
        self.changed(("add", "code", ("x", "X", " x")), code=("x", "X", " x"))

    def test_values_that_are_not_valid_are_equal_as_strings(self):
        self.wrong(attribute("ValueTaken", "luck", "x"), ("add", "luck", ("x", "x")))
        self.wrong(attribute("BadValue", "luck", "x"), ("add", "luck", ("x", "X", "03")))
        self.wrong(attribute("BadValue", "luck", "03"), ("add", "luck", ("03",)))

    def test_unknown_attributes(self):
        self.wrong(attribute("ValueTaken", "none", "x"), ("add", "none", ("x", "X", "x")))
        self.wrong(attribute("UnknownAttribute", "none"), ("add", "none", ("x", "X")))
        self.changed(("add", "none", ()), none=())
        self.changed(("add", "none", ("x",)), ("delete", "none", ("x",)), none=())


class TestDeleteValues(Modify):

    def test_values_are_removed(self):
        self.changed(("delete", "luck", ("3",)), luck=("-4",))
        self.changed(("delete", "luck", ("-4", "3")), luck=())
        self.changed(("delete", "luck", ()), luck=())
        self.changed(("delete", "boss", ("cn=ANN,ou=a",)), boss=())
        self.changed(("delete", "mail", ("TWO TOO",)), name=CID, mail=("One",))
        self.changed(("delete", "boss", ("cn=ann,ou=a",)), name=CID, boss=(BOB,))

    def test_values_that_are_not_there(self):
        self.wrong(attribute("NoValue", "luck", "5"), ("delete", "luck", ("3", "5", "6")))
        self.wrong(attribute("NoValue", "luck", "03"), ("delete", "luck", ("03",)))
        self.wrong(attribute("NoValue", "luck", "3"), ("delete", "luck", ("3", "3")))
        self.wrong(attribute("NoValue", "cn", "bob"), ("delete", "cn", ("BOB", "bob")))
        self.wrong(attribute("NoValue", "mail", "x"), ("delete", "mail", ("x",)))
        self.wrong(attribute("NoValue", "mail", ""), ("delete", "mail", ()))
        self.wrong(attribute("NoValue", "luck", ""), ("delete", "luck", ()), ("delete", "luck", ()))

    def test_all_equal_values_are_removed(self):
        self.changed(("replace", "mail", ("a", "b", "A ", "B")), ("delete", "mail", ("a",)), ("delete", "mail", ("b",)), mail=())
        self.changed(("replace", "mail", ("a", "b", "A")), ("delete", "mail", (" A",)), mail=("b",))
        self.wrong(attribute("NoValue", "mail", "A"), ("replace", "mail", ("a", "b", "A")), ("delete", "mail", ("a", "A")))

    def test_unknown_attributes_and_mirrors(self):
        self.wrong(attribute("NoValue", "none", ""), ("delete", "none", ()))
        self.wrong(attribute("NoValue", "none", "X"), ("add", "none", ("x",)), ("delete", "none", ("X",)))
        for word in ("team", "crew"):
            self.wrong(attribute("NoValue", word, ""), ("delete", word, ()))
            self.wrong(attribute("NoValue", word, CID), ("delete", word, (CID,)))
        self.wrong(attribute("MirrorGiven", "team"), ("add", "team", (CID,)))
        self.wrong(attribute("MirrorGiven", "team"), ("replace", "team", ("x",)))
        self.changed(("replace", "team", ()), ("add", "team", ()), team=(CID,))


class TestReplaceValues(Modify):

    def test_values_are_replaced(self):
        self.changed(("replace", "luck", ("9", "3")), luck=("9", "3"))
        self.changed(("replace", "luck", ()), luck=())
        self.changed(("replace", "mail", ("m",)), mail=("m",))
        self.changed(("replace", "mail", ()), mail=())
        self.changed(("replace", "luck", ("1",)), ("add", "luck", ("2",)), ("replace", "luck", ("5",)), luck=("5",))
        self.changed(("replace", "none", ()), none=())

    def test_equal_values_break_a_rule_at_the_end(self):
        self.wrong(attribute("ValueTaken", "mail", "A"), ("replace", "mail", ("a", "A")))
        self.wrong(attribute("ValueTaken", "mail", "A"), ("replace", "mail", ("a", "A")), ("add", "mail", ("b",)))
        self.wrong(attribute("NotAllowed", "ref"), ("replace", "mail", ("a", "A")), ("add", "ref", ("b",)))
        self.wrong(attribute("UnknownAttribute", "none"), ("replace", "none", ("x", "x")))


class TestIncrement(Modify):

    def test_sums(self):
        for step, values in ((1, ("4", "-3")), (0, ("3", "-4")), (-3, ("0", "-7")), (4, ("7", "0")),
                             (10 ** 29, (str(10 ** 29 + 3), str(10 ** 29 - 4)))):
            self.changed(("increment", "luck", step), luck=values)
        self.changed(("increment", "luck", 2), ("increment", "luck", 3), luck=("8", "1"))
        self.changed(("replace", "luck", (str(10 ** 30 - 2),)), ("increment", "luck", 1), luck=("9" * 30,))
        self.changed(("replace", "luck", ("-" + "9" * 30,)), ("increment", "luck", 10 ** 30 - 1), luck=("0",))

    def test_errors(self):
        self.wrong(attribute("UnknownAttribute", "none"), ("add", "none", ("x",)), ("increment", "none", 1))
        for word in ("cn", "code", "open", "boss", "team", "kind"):
            self.wrong(attribute("NotInteger", word), ("increment", word, 1))
        for word in ("age", "luck"):
            self.wrong(attribute("NoValue", word, ""), ("replace", word, ()), ("increment", word, 1))
        self.wrong(attribute("BadValue", "luck", "x"), ("add", "luck", ("x", "y")), ("increment", "luck", 1))
        self.wrong(attribute("BadValue", "luck", "07"), ("add", "luck", ("07",)), ("increment", "luck", 1))
        for value, step, total in (("9" * 30, 1, "1" + "0" * 30), ("-" + "9" * 30, -1, "-1" + "0" * 30),
                                   ("9" * 30, 10 ** 30 - 1, "1" + "9" * 29 + "8")):
            self.wrong(attribute("BadValue", "luck", total), ("replace", "luck", ("0", value, "x")), ("increment", "luck", step))
        self.wrong(attribute("BadValue", "luck", "x"), ("replace", "luck", ("x", "9" * 30)), ("increment", "luck", 1))


class TestOrder(Modify):

    def test_the_first_change_that_is_not_possible(self):
        self.wrong(attribute("NoValue", "mail", ""), ("add", "luck", ("1",)), ("delete", "mail", ()), ("increment", "cn", 1))
        self.wrong(attribute("NotInteger", "cn"), ("increment", "cn", 1), ("delete", "mail", ()))
        # Changes come before rules.
        self.wrong(attribute("NoValue", "mail", ""), ("delete", "kind", ()), ("delete", "mail", ()))

    def test_rules(self):
        for expected, *changes in (
                (attribute("UnknownAttribute", "none"), ("add", "none", ("x",)), ("delete", "kind", ())),
                (given("UnknownClass", ""), ("delete", "kind", ()), ("add", "ref", ("x",))),
                (given("UnknownClass", "none"), ("add", "kind", ("none",))),
                (("BadClasses", {}), ("add", "kind", ("unit",)), ("add", "ref", ("x",))),
                (attribute("NotAllowed", "ref"), ("add", "ref", ("x",)), ("delete", "cn", ())),
                (attribute("Missing", "cn"), ("delete", "cn", ()), ("add", "age", ("1", "2"))),
                (attribute("Missing", "luck"), ("add", "kind", ("tag",)), ("delete", "luck", ())),
                (attribute("TooManyValues", "age"), ("add", "age", ("1", "2")), ("add", "luck", ("x",))),
                (attribute("TooManyValues", "mail"), ("add", "mail", tuple(words_of(21)))),
                (attribute("BadValue", "luck", "x"), ("add", "luck", ("x",)), ("replace", "cn", ("Eve",))),
                (attribute("NotNamed", "cn"), ("replace", "cn", ("Eve",)), ("add", "boss", ("ou=q",))),
                (attribute("NoTarget", "boss", "ou=q"), ("add", "boss", ("ou=q",)))):
            with self.subTest(expected):
                self.wrong(expected, *changes)

    def test_rules_of_the_place(self):
        directory = tree(person("cn=Eve,cn=Ann,ou=A", kind=("chief",)), person("cn=Fay,cn=Ann,ou=A", kind=("chief",)))
        self.refused(given("BadPlace", "cn=Fay,cn=Ann,ou=A"), directory, "modify", "cn=fay,cn=ann,ou=a",
                     (("replace", "kind", ("person",)),))
        self.assertEqual(directory.modify("cn=ann,ou=a", (("add", "kind", ("chief",)),)), ("cn=Ann,ou=A",))

    def test_rule_8_for_the_entries_straight_below(self):
        entries = (unit("ou=a"), unit("ou=b,ou=a"), person("cn=z,ou=a"), person("cn=C,ou=a"), person("cn=a,ou=b,ou=a"))
        directory = Directory(tree_schema(), entries)
        changes = (("replace", "kind", ("chief",)), ("add", "cn", ("x",)))
        self.refused(given("BadPlace", "ou=a"), directory, "modify", "ou=a", changes)
        lower = tuple(entry.renamed(entry.name.text + ",ou=x") for entry in entries)
        directory = Directory(tree_schema(), (unit("ou=x"),) + lower)
        self.refused(given("BadPlace", "cn=C,ou=a,ou=x"), directory, "modify", "ou=a,ou=x", changes)
        self.refused(given("BadPlace", "cn=a,ou=b,ou=a,ou=x"), directory, "modify", "ou=b,ou=a,ou=x", changes)

    def test_rule_9(self):
        changes = (("replace", "kind", ("referral",)), ("add", "ref", ("west",)))
        for name, text in (("ou=a", "ou=A"), ("ou=b,ou=a", "ou=B,ou=A")):
            self.refused(given("HasChildren", text), tree(), "modify", name, changes)
        # The rules 1 to 8 of the entry come before it, rule 8 of those below, which are persons, behind it.
        self.refused(attribute("Missing", "ref"), tree(), "modify", "ou=a", changes[:1])
        directory = tree()
        directory.modify("ou=z", changes)
        self.holds(directory["ou=z"], kind=("referral",), ref=("west",), ou=("Z",))

    def test_the_text_of_a_tracked_value(self):
        directory = tree()
        self.assertEqual(directory.modify(BOB, (("replace", "boss", ("cn=ANN,ou=a",)),)), ())
        self.assertEqual(directory.modify(BOB, (("add", "boss", ("cn=bob,ou=a", "ou=b,ou=a")),)), (BOB,))
        self.holds(directory[BOB], boss=("cn=Ann,ou=A", BOB, "ou=B,ou=A"))

    def test_other_attributes_of_syntax_name_stay_as_they_are(self):
        directory = tree()
        directory.modify(BOB, (("add", "link", ("cn=ANN,ou=a", "cn=nobody")),))
        self.holds(directory[BOB], link=("cn=ANN,ou=a", "cn=nobody"))

    def test_referrals_with_manage(self):
        directory = tree(referral("ou=R", "west"))
        self.assertEqual(directory.modify("ou=r", (("add", "ref", ("east/ou=x",)),), manage=True), ("ou=R",))
        self.refused(attribute("BadValue", "ref", "EAST"), directory, "modify", "ou=r", (("add", "ref", ("EAST",)),),
                     manage=True)

    def test_changes_are_not_changed(self):
        changes = (("add", "mail", ("x",)), ("increment", "luck", 1))
        tree().modify(BOB, changes)
        self.assertEqual(changes, (("add", "mail", ("x",)), ("increment", "luck", 1)))
        entry = Entry("ou=a", kind=("unit",), ou=("a",))
        directory = Directory(tree_schema(), (entry,))
        directory.modify("ou=a", (("add", "mail", ("x",)),))
        self.assertNotIn("mail", entry)


if __name__ == "__main__":
    unittest.main()
