"""Point [13]: the deeds add and delete."""

import unittest

from dirservice.directories import Directory
from dirservice.entries import Entry
from dirservice.names import Name
from tests.samples import outcome, words_of
from tests.trees import TreeTest, given, names_of, no_entry, person, referral, tree, tree_schema, unit


def full():
    """A directory with 300 entries."""
    return tree(*[unit(f"ou=u{number}") for number in range(294)])


class TestAdd(TreeTest):

    def test_entries_are_added(self):
        directory = tree()
        self.assertEqual(directory.add_entry(person("cn=Dan,ou=b,ou=a")),
                         ("cn=Dan,ou=B,ou=A",))
        self.assertEqual(directory.add_entry(entry=unit("ou=T")), ("ou=T",))
        self.assertEqual(directory.add_entry(unit("ou=S,ou=t"), manage=True), ("ou=S,ou=T",))
        self.assertEqual(len(directory), 9)
        self.assertEqual(directory["cn=dan,ou=b,ou=a"], person("cn=Dan,ou=B,ou=A"))

    def test_values_of_tracked_attributes_get_the_texts_of_names(self):
        directory = tree()
        self.assertEqual(directory.add_entry(person("cn=Dan,ou=A", boss=("cn=BOB,ou=a", "cn=dan,ou=a"))), ("cn=Dan,ou=A",))
        self.holds(directory["cn=dan,ou=a"], boss=("cn=Bob,ou=A", "cn=Dan,ou=A"), team=("cn=Dan,ou=A",))

    def test_values_that_are_no_entries(self):
        for entry in (None, True, 5, "ou=x", (), [], {}, Name("ou=x"), (unit("ou=x"),), Entry):
            self.refused(given("BadEntry", entry), tree(), "add_entry", entry)

    def test_name_taken(self):
        for name, text in (("ou=a", "ou=A"), ("cn=ANN,ou=a", "cn=Ann,ou=A"), ("ou=b,ou=a", "ou=B,ou=A")):
            self.refused(given("NameTaken", text), tree(), "add_entry", unit(name))
            # It comes before the rules.
            self.refused(given("NameTaken", text), tree(), "add_entry", Entry(name))
        self.refused(given("NameTaken", ""), tree(), "add_entry", Entry("", kind=("unit",), ou=("a",)))
        self.refused(given("NameTaken", ""), tree(), "add_entry", Entry(""))
        self.refused(given("NameTaken", "ou=A"), full(), "add_entry", unit("ou=a"))

    def test_no_entry_above(self):
        directory = full()
        for name, missing, matched in (
                ("ou=x,ou=Q", "ou=Q", ""), ("ou=x,ou=y,ou=a", "ou=y,ou=a", "ou=A"), ("ou=x,cn=Q,ou=B,ou=a", "cn=Q,ou=B,ou=a",
                                                                                      "ou=B,ou=A"),
                ("ou=x,ou=y,ou=w,ou=z", "ou=y,ou=w,ou=z", "ou=Z"), ("ou=x,ou=A,ou=q", "ou=A,ou=q", "")):
            self.refused(no_entry(missing, matched), tree(), "add_entry", unit(name))
            self.refused(no_entry(missing, matched), tree(), "add_entry", Entry(name))
            self.assertEqual(outcome(directory.add_entry, unit(name)), no_entry(missing, matched))

    def test_rules(self):
        entry, directory = unit("ou=x"), full()
        for expected, wrong in (
                (("UnknownAttribute", {"attribute": "none"}), entry.with_values(none=("x",), team=("x",))),
                (("MirrorGiven", {"attribute": "team"}), entry.with_values(team=("x",), kind=())),
                (given("UnknownClass", ""), entry.with_values(kind=(), age=("5",))),
                (given("UnknownClass", "none"), entry.with_values(kind=("unit", "none"))),
                (("BadClasses", {}), entry.with_values(kind=("unit", "person"), age=("x",))),
                (("NotAllowed", {"attribute": "age"}), entry.with_values(age=("x",), ou=())),
                (("Missing", {"attribute": "ou"}), entry.with_values(ou=(), dup=("1", "2"))),
                (("TooManyValues", {"attribute": "dup"}), entry.with_values(dup=("1", "2"), luck=("x",))),
                (("TooManyValues", {"attribute": "mail"}), entry.with_values(mail=tuple(words_of(21)))),
                (("BadValue", {"attribute": "luck", "item": "x"}), entry.with_values(luck=("1", "x"), ou=("y",))),
                (("ValueTaken", {"attribute": "mail", "item": "A"}), entry.with_values(mail=("a", "A"), ou=("y",))),
                (("NotNamed", {"attribute": "ou"}), entry.with_values(ou=("y",))),
                (("NotNamed", {"attribute": "cn"}), person("cn=x,ou=z", cn=("y",))),
                (given("BadPlace", "cn=x"), person("cn=x")),
                (given("BadPlace", "cn=x,cn=Ann,ou=A"), person("cn=x,cn=ann,ou=a"))):
            self.refused(expected, tree(), "add_entry", wrong)
            # The rules come before the number of entries.
            self.assertEqual(outcome(directory.add_entry, wrong), expected)

    def test_the_entry_above_decides_where_a_class_stands(self):
        directory = tree()
        directory.add_entry(person("cn=x,cn=ann,ou=a", kind=("chief",)))
        self.refused(given("BadPlace", "cn=x"), directory, "add_entry", person("cn=x", kind=("chief",)))

    def test_full(self):
        directory = full()
        self.assertEqual(len(directory), 300)
        self.refused(("Full", {"limit": 300}), directory, "add_entry", unit("ou=one"))
        self.refused(("Full", {"limit": 300}), directory, "add_entry", unit("ou=one", boss=("ou=nowhere",)))
        directory.delete("ou=z")
        directory.add_entry(unit("ou=one"))
        self.refused(("Full", {"limit": 300}), directory, "add_entry", unit("ou=z"))

    def test_no_target(self):
        self.refused(("NoTarget", {"attribute": "boss", "item": "ou=q"}), tree(), "add_entry",
                     person("cn=x,ou=a", boss=("ou=a", "ou=q", "ou=r"), peer=("ou=s",)))

    def test_twelve_relative_names(self):
        name = "ou=u0"
        directory = Directory(tree_schema(), (unit(name),))
        for number in range(1, 12):
            name = f"ou=u{number}," + name
            self.assertEqual(directory.add_entry(unit(name)), (name,))


class TestDelete(TreeTest):

    def test_entries_are_deleted(self):
        directory = tree()
        self.assertEqual(directory.delete("ou=z"), ("ou=Z",))
        self.assertNotIn("ou=z", directory)
        self.assertEqual(directory.delete(name=Name("cn=CID,ou=b,ou=A"), manage=True), ("cn=Cid,ou=B,ou=A",))
        self.assertEqual(directory.delete("ou=b,ou=a"), ("ou=B,ou=A",))
        self.assertEqual(names_of(directory), ("ou=A", "cn=Ann,ou=A", "cn=Bob,ou=A"))

    def test_values_that_name_it_disappear(self):
        directory = tree(person("cn=Dan,ou=A", boss=("cn=bob,ou=a",), peer=("cn=bob,ou=a", "ou=a"), link=("cn=Bob,ou=A",)))
        self.assertEqual(directory.delete("cn=BOB,ou=a"), ("cn=Bob,ou=A", "cn=Dan,ou=A", "cn=Cid,ou=B,ou=A"))
        self.holds(directory["cn=dan,ou=a"], boss=(), peer=("ou=A",), link=("cn=Bob,ou=A",))
        self.holds(directory["cn=cid,ou=b,ou=a"], boss=("cn=Ann,ou=A",))
        self.assertNotIn("boss", directory["cn=dan,ou=a"])

    def test_an_entry_that_names_itself(self):
        directory = tree(person("cn=Dan,ou=A", kind=("deputy",), boss=("cn=Dan,ou=A",)))
        self.assertEqual(directory.delete("cn=dan,ou=a"), ("cn=Dan,ou=A",))

    def test_names_that_are_none(self):
        for name in ("cn=a, ou=b", None, True, 5, (), ["ou=z"], unit("ou=z"), b"ou=z"):
            self.refused(given("BadName", name), tree(), "delete", name)

    def test_no_entry(self):
        for missing, matched in (("", ""), ("ou=Q", ""), ("ou=Q,ou=b,ou=a", "ou=B,ou=A"), ("cn=Ann,ou=z", "ou=Z")):
            self.refused(no_entry(missing, matched), tree(), "delete", missing)
            self.refused(no_entry(missing, matched), tree(), "delete", Name(missing))

    def test_entries_below(self):
        self.refused(given("HasChildren", "ou=A"), tree(), "delete", "ou=a")
        self.refused(given("HasChildren", "ou=B,ou=A"), tree(), "delete", "ou=b,ou=a")
        # It comes before what other entries hold.
        directory = tree(person("cn=Aa,ou=A", kind=("deputy",), boss=("ou=a",)))
        self.refused(given("HasChildren", "ou=A"), directory, "delete", "ou=a")

    def test_in_use(self):
        directory = tree(person("cn=Zed,ou=A", kind=("deputy",), boss=("cn=Ann,ou=A",)),
                         person("cn=Dan,ou=B,ou=A", kind=("deputy",), boss=("cn=Ann,ou=A",)),
                         person("cn=Aa,ou=A", boss=("cn=Ann,ou=A",)))
        self.refused(("InUse", {"holder": "cn=Zed,ou=A"}), directory, "delete", "cn=ann,ou=a")
        directory.modify("cn=zed,ou=a", (("replace", "boss", ("ou=z",)),))
        self.refused(("InUse", {"holder": "cn=Dan,ou=B,ou=A"}), directory, "delete", "cn=ann,ou=a")
        directory.modify("cn=dan,ou=b,ou=a", (("add", "boss", ("ou=z",)),))
        self.assertEqual(directory.delete("cn=ann,ou=a"), (
            "cn=Aa,ou=A", "cn=Ann,ou=A", "cn=Bob,ou=A", "cn=Cid,ou=B,ou=A", "cn=Dan,ou=B,ou=A"))

    def test_referrals_are_deleted_with_manage(self):
        directory = tree(referral("ou=R", "west"))
        self.assertEqual(directory.delete("ou=r", manage=True), ("ou=R",))


class TestManageAndKeep(TreeTest):

    def test_only_by_name(self):
        directory = tree()
        for call in (lambda: directory.add_entry(unit("ou=x"), True), lambda: directory.delete("ou=z", True),
                     lambda: directory.modify("ou=z", (), True), lambda: directory.rename("ou=z", "ou=y", "ou=a"),
                     lambda: directory.apply((), True)):
            with self.assertRaises(TypeError):
                call()
        self.assertEqual(directory.undoable, 0)


if __name__ == "__main__":
    unittest.main()
