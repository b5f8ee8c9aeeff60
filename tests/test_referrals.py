"""Points [17] and [18]: Referral in deeds, and the targets that it tells."""

import unittest

from dirservice.directories import Directory
from dirservice.entries import Entry
from dirservice.names import Name
from dirservice.referrals import targets_of
from tests.trees import TreeTest, given, names_of, no_entry, person, referral, tree, tree_schema, unit

BOB = "cn=Bob,ou=A"


def refers(*targets):
    return ("Referral", {"targets": targets})


def with_referrals():
    return tree(referral("ou=Ref,ou=A", "west"), referral("ou=Top", "east/ou=E", "north/"))


class TestAdd(TreeTest):

    def test_below_and_at_the_name(self):
        for manage in (False, True):
            for name, targets in (("ou=x,ou=REF,ou=a", ("west/ou=x",)), ("ou=x,ou=Y,ou=ref,ou=a", ("west/ou=x,ou=Y",)),
                                  ("cn=Q+ou=x,ou=top", ("east/cn=Q+ou=x,ou=E", "north/cn=Q+ou=x"))):
                self.refused(refers(*targets), with_referrals(), "add_entry", unit(name), manage=manage)
                # It comes before all else.
                self.refused(refers(*targets), with_referrals(), "add_entry", Entry(name), manage=manage)
                self.refused(refers(*targets), with_referrals(), "apply", (("add", Entry(name)),), manage=manage)
            self.refused(given("NameTaken", "ou=Ref,ou=A"), with_referrals(), "add_entry", unit("ou=ref,ou=a"), manage=manage)
            self.refused(given("NameTaken", "ou=Top"), with_referrals(), "add_entry", unit("ou=top"), manage=manage)

    def test_above_and_beside_the_name(self):
        directory = with_referrals()
        self.assertEqual(directory.add_entry(unit("ou=Reff,ou=a")), ("ou=Reff,ou=A",))
        self.assertEqual(directory.add_entry(unit("ou=Ref")), ("ou=Ref",))
        self.assertEqual(directory.add_entry(unit("ou=Top,ou=z")), ("ou=Top,ou=Z",))
        self.refused(no_entry("ou=top,ou=q"), directory, "add_entry", unit("ou=x,ou=top,ou=q"))

    def test_an_entry_of_referral(self):
        directory = tree()
        directory.add_entry(referral("ou=R,ou=z", "west", "west/", "west/cn=A\\, b"))
        self.refused(refers("west/cn=x", "west/cn=x", "west/cn=x,cn=A\\, b"), directory, "add_entry", Entry("cn=x,ou=r,ou=z"))
        self.refused(("BadValue", {"attribute": "ref", "item": "West"}), directory, "add_entry", referral("ou=S", "west", "West"))
        self.refused(("BadValue", {"attribute": "ref", "item": "west/x"}), directory, "add_entry", referral("ou=S", "west/x"))


class TestDeleteAndModify(TreeTest):

    def test_at_the_name(self):
        for word, arguments in (("delete", ()), ("modify", ((),))):
            for name, targets in (("ou=REF,ou=a", ("west/",)), ("ou=top", ("east/ou=E", "north/"))):
                for one in (name, Name(name)):
                    self.refused(refers(*targets), with_referrals(), word, one, *arguments)
                    self.assertIsInstance(getattr(with_referrals(), word)(one, *arguments, manage=True), tuple)
                self.refused(refers(*targets), with_referrals(), "apply", ((word, name, *arguments),))
                with_referrals().apply(((word, name, *arguments),), manage=True)

    def test_below_the_name(self):
        for word, arguments in (("delete", ()), ("modify", ((),))):
            for manage in (False, True):
                for name, targets in (("cn=x,ou=REF,ou=a", ("west/cn=x",)), ("cn=x,ou=y,ou=top", ("east/cn=x,ou=y,ou=E",
                                                                                                  "north/cn=x,ou=y"))):
                    self.refused(refers(*targets), with_referrals(), word, name, *arguments, manage=manage)

    def test_above_and_beside_the_name(self):
        directory = with_referrals()
        self.refused(given("HasChildren", "ou=A"), directory, "delete", "ou=a")
        self.assertEqual(directory.modify("ou=a", (("add", "mail", ("m",)),)), ("ou=A",))
        self.assertEqual(directory.delete("ou=z"), ("ou=Z",))
        self.refused(no_entry("cn=x,ou=tops"), directory, "delete", "cn=x,ou=tops")

    def test_wrong_arguments_come_first(self):
        self.refused(("BadChange", {"place": None}), with_referrals(), "modify", "ou=top", None)
        self.refused(given("BadName", "no leaf"), with_referrals(), "rename", "ou=top", "no leaf")
        self.refused(given("BadName", 5), with_referrals(), "rename", "ou=top", "ou=x", under=5)

    def test_an_entry_that_becomes_one_and_is_none_again(self):
        directory = with_referrals()
        directory.modify("ou=z", (("replace", "kind", ("referral",)), ("add", "ref", ("south",))))
        self.refused(refers("south/cn=x"), directory, "delete", "cn=x,ou=z")
        self.refused(refers("south/"), directory, "delete", "ou=z")
        directory.modify("ou=z", (("replace", "kind", ("unit",)), ("delete", "ref", ())), manage=True)
        self.assertEqual(directory.delete("ou=z"), ("ou=Z",))

    def test_within_a_unit(self):
        directory = tree()
        self.refused(refers("west/ou=x"), directory, "apply", (("add", referral("ou=R", "west")), ("add", unit("ou=x,ou=r"))))
        self.assertEqual(directory.apply((("add", referral("ou=R", "west")), ("delete", "ou=R")), manage=True), ())


class TestRename(TreeTest):

    def test_the_entry(self):
        for name, targets in (("ou=ref,ou=a", ("west/",)), ("ou=top", ("east/ou=E", "north/"))):
            for under in (None, "", "ou=nowhere", "ou=top"):
                self.refused(refers(*targets), with_referrals(), "rename", name, "ou=x", under=under)
            self.assertEqual(len(with_referrals().rename(name, "ou=x", manage=True)), 2)
        for manage in (False, True):
            self.refused(refers("west/cn=x"), with_referrals(), "rename", "cn=x,ou=ref,ou=a", "ou=x", under="ou=top",
                         manage=manage)

    def test_the_new_entry_above(self):
        for manage in (False, True):
            for under, targets in (("ou=REF,ou=a", ("west/",)), ("ou=Y,ou=ref,ou=a", ("west/ou=Y",)),
                                   ("ou=top", ("east/ou=E", "north/"))):
                for one in (under, Name(under)):
                    self.refused(refers(*targets), with_referrals(), "rename", "ou=z", "ou=x", under=one, manage=manage)
                    # The entry comes first.
                    self.refused(no_entry("ou=q"), with_referrals(), "rename", "ou=q", "ou=x", under=one, manage=manage)
        # It comes before Inside.
        self.refused(refers("west/"), with_referrals(), "rename", "ou=a", "ou=x", under="ou=ref,ou=a")
        self.refused(refers("west/"), with_referrals(), "rename", "ou=ref,ou=a", "ou=x", under="ou=ref,ou=a", manage=True)

    def test_referrals_follow_the_names_above(self):
        directory = with_referrals()
        directory.rename("ou=a", "ou=New", under="ou=z")
        self.refused(refers("west/cn=x"), directory, "delete", "cn=x,ou=ref,ou=new,ou=z")
        self.refused(no_entry("cn=x,ou=ref,ou=a"), directory, "delete", "cn=x,ou=ref,ou=a")


class TestTargets(TreeTest):

    def told(self, references, name, at="ou=R,ou=A"):
        directory = tree(referral(at, *references))
        told = targets_of(directory[at], Name(name))
        self.refused(refers(*told), directory, "delete", name)
        return told

    def test_references_with_and_without_names(self):
        references = ("west", "east/", "west/ou=W", "north/cn=A+ou=b,ou=C", "west")
        self.assertEqual(self.told(references[:4], "cn=X,ou=Q,ou=r,ou=a"), (
            "west/cn=X,ou=Q", "east/cn=X,ou=Q", "west/cn=X,ou=Q,ou=W", "north/cn=X,ou=Q,cn=A+ou=b,ou=C"))
        self.assertEqual(self.told(references[:4], "ou=r,ou=a"), ("west/", "east/", "west/ou=W", "north/cn=A+ou=b,ou=C"))

    def test_the_name_keeps_its_text(self):
        self.assertEqual(self.told(("west/ou=\\ W",), "cn=A\\,B+ou=X  y,ou=r,ou=a"), ("west/cn=A\\,B+ou=X  y,ou=\\ W",))

    def test_values_stay_in_their_order_and_equal_targets_stay(self):
        self.assertEqual(self.told(("west/", "east", "west"), "cn=x,ou=r,ou=a"), ("west/cn=x", "east/cn=x", "west/cn=x"))

    def test_names_that_would_be_too_long(self):
        def long(count):
            return ",".join(f"a={number}" for number in range(count))

        references = ("west/" + long(12), "east/" + long(11), "south/" + long(10), "north")
        self.assertEqual(self.told(references, "ou=r,ou=a"), (
            "west/" + long(12), "east/" + long(11), "south/" + long(10), "north/"))
        self.assertEqual(self.told(references, "cn=x,ou=r,ou=a"), (
            "east/cn=x," + long(11), "south/cn=x," + long(10), "north/cn=x"))
        self.assertEqual(self.told(references, "cn=x,cn=y,ou=r,ou=a"), ("south/cn=x,cn=y," + long(10), "north/cn=x,cn=y"))
        self.assertEqual(self.told(references, "cn=x,cn=y,cn=z,ou=r,ou=a"), ("north/cn=x,cn=y,cn=z",))
        self.assertEqual(self.told(references[:3], "cn=x,cn=y,cn=z,ou=r,ou=a"), ())

    def test_a_referral_at_the_top_and_the_longest_name(self):
        name = ",".join(f"cn=u{number}" for number in range(11)) + ",ou=r"
        self.assertEqual(self.told(("west/ou=a,ou=b", "east/ou=a", "north"), name, at="ou=R"), (
            "east/" + name.removesuffix("ou=r") + "ou=a", "north/" + name.removesuffix(",ou=r")))


class TestOtherCalls(TreeTest):

    def test_reading_knows_no_referrals(self):
        directory = with_referrals()
        self.holds(directory["ou=top"], kind=("referral",), ref=("east/ou=E", "north/"))
        self.assertIn("ou=top", directory)
        self.assertEqual(directory.children("ou=top"), ())
        self.assertEqual([entry.name.text for entry in directory.walk("ou=top")], ["ou=Top"])
        self.refused(no_entry("cn=x,ou=top", "ou=Top"), directory, "__getitem__", "cn=x,ou=top")
        self.assertIn("ou=Ref,ou=A", names_of(directory))

    def test_referrals_follow_the_other_rules(self):
        entries = (unit("ou=A"), referral("ou=R,ou=A", "west", mail=("m",), age=("5",), boss=("ou=a",)), person("cn=x,ou=A"))
        directory = Directory(tree_schema(), entries)
        self.holds(directory["ou=a"], team=("ou=R,ou=A",))
        self.assertEqual(directory.rename("ou=a", "ou=B"), ("ou=A", "cn=x,ou=A", "ou=R,ou=A", "ou=B", "cn=x,ou=B", "ou=R,ou=B"))
        self.holds(directory["ou=r,ou=b"], boss=("ou=B",))


if __name__ == "__main__":
    unittest.main()
