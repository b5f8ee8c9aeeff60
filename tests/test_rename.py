"""Point [13]: the deed rename."""

import unittest

from dirservice.directories import Directory
from dirservice.entries import Entry
from dirservice.names import Name
from tests.test_modify import attribute
from tests.trees import TreeTest, given, names_of, no_entry, person, referral, tree, tree_schema, unit

BOB, CID = "cn=Bob,ou=A", "cn=Cid,ou=B,ou=A"


def chain(depth, *others):
    """A directory of units, each one below the one before: ou=u0 to that depth."""
    name, entries = "ou=u0", [unit("ou=u0")]
    for number in range(1, depth):
        name = f"ou=u{number},{name}"
        entries.append(unit(name))
    return Directory(tree_schema(), tuple(entries) + others)


class TestArguments(TreeTest):

    def test_results(self):
        directory = tree()
        self.assertEqual(directory.rename("ou=z", "ou=Y"), ("ou=Y", "ou=Z"))
        self.assertEqual(directory.rename(name=Name("ou=y"), leaf="ou=X", under=None, keep=False, manage=False),
                         ("ou=X", "ou=Y"))
        self.assertEqual(directory.rename("ou=x", "ou=X"), ())
        self.assertEqual(directory.rename("ou=x", "ou=X", under="", keep=True, manage=True), ())
        self.assertEqual(directory.rename("ou=x", "ou=x"), ("ou=x",))
        self.assertEqual(directory.undoable, 5)

    def test_names_leaves_and_names_above_that_are_none(self):
        wrong_names = ("cn=a, ou=b", "a", None, True, 5, (), ["ou=z"], unit("ou=z"), b"ou=z")
        wrong_leaves = ("", "ou=x,ou=a", "ou", " ou=x", "ou=x+ou=y", "ou=", None, True, 5, Name("ou=x"), ("ou=x",), b"ou=x")
        for name in wrong_names:
            self.refused(given("BadName", name), tree(), "rename", name, None, under=5)
        for leaf in wrong_leaves:
            self.refused(given("BadName", leaf), tree(), "rename", "ou=nowhere", leaf, under=5)
        for under in wrong_names:
            if under is not None:
                self.refused(given("BadName", under), tree(), "rename", "ou=nowhere", "ou=x", under=under)

    def test_no_entry(self):
        for missing, matched in (("", ""), ("ou=Q", ""), ("ou=Q,ou=b,ou=a", "ou=B,ou=A")):
            for under in (None, "", "ou=nowhere"):
                self.refused(no_entry(missing, matched), tree(), "rename", missing, "ou=x", under=under)
            if missing:
                self.refused(no_entry(missing, matched), tree(), "rename", "ou=z", "ou=x", under=missing)
                self.refused(no_entry(missing, matched), tree(), "rename", "ou=z", "ou=x", under=Name(missing))

    def test_inside(self):
        for name, under, text in (("ou=a", "ou=a", "ou=A"), ("ou=a", "ou=b,ou=a", "ou=B,ou=A"),
                                  ("ou=a", CID.lower(), CID), ("ou=b,ou=a", "ou=b,ou=A", "ou=B,ou=A")):
            for leaf in ("ou=A", "ou=z", "cn=cid"):
                self.refused(given("Inside", text), tree(), "rename", name, leaf, under=under)
        # What is missing comes first.
        self.refused(no_entry("ou=q,ou=a", "ou=A"), tree(), "rename", "ou=a", "ou=a", under="ou=q,ou=a")

    def test_name_taken(self):
        for name, leaf, under, text in (("ou=z", "ou=a", None, "ou=A"), (BOB, "cn=ANN", None, "cn=Ann,ou=A"),
                                        (BOB, "cn=cid", "ou=b,ou=a", CID), (CID, "cn=\\ Ann", "ou=A", "cn=Ann,ou=A"),
                                        ("ou=b,ou=a", "ou=Z", "", "ou=Z"), ("ou=b,ou=a", "ou=A", "", "ou=A")):
            self.refused(given("NameTaken", text), tree(), "rename", name, leaf, under=under)
        # The entry itself is no other entry.
        directory = tree()
        self.assertEqual(directory.rename(BOB, "cn=BOB"), ("cn=BOB,ou=A", CID))
        self.assertEqual(directory.rename(BOB, "cn=Bob", under="ou=a"), (BOB, CID))

    def test_too_deep(self):
        directory = chain(12, unit("ou=v"), unit("ou=w,ou=v"))
        eleven = ",".join(f"ou=u{number}" for number in range(10, -1, -1))
        deep = ("TooDeep", {"limit": 12})
        self.refused(deep, directory, "rename", "ou=v", "ou=v", under=eleven)
        self.refused(deep, directory, "rename", "ou=u0", "ou=x", under="ou=v")
        self.refused(deep, directory, "rename", "ou=u1,ou=u0", "ou=x", under="ou=w,ou=v")
        self.refused(deep, directory, "rename", "ou=w,ou=v", "ou=x", under="ou=u11," + eleven)
        self.refused(given("NameTaken", "ou=u11," + eleven), directory, "rename", "ou=v", "ou=U11", under=eleven)
        # It comes before the rules.
        self.refused(deep, directory, "rename", "ou=u0", "none=x", under="ou=v")
        self.assertEqual(len(directory.rename("ou=u1,ou=u0", "ou=y", under="ou=v")), 22)
        self.assertEqual(directory.rename("ou=w,ou=v", "ou=x", under="ou=u0"), ("ou=x,ou=u0", "ou=w,ou=v"))

    def test_the_empty_name_makes_a_top_entry(self):
        for under in ("", Name("")):
            directory = tree()
            self.assertEqual(directory.rename("ou=b,ou=a", "ou=T", under=under), (
                "ou=B,ou=A", "cn=Cid,ou=B,ou=A", "ou=T", "cn=Cid,ou=T"))
            self.holds(directory["ou=t"], ou=("T",))

    def test_a_unit_for_a_person_is_no_place(self):
        self.refused(given("BadPlace", "cn=Bob"), tree(), "rename", BOB, "cn=Bob", under="")
        self.refused(given("BadPlace", "cn=Bob,cn=Ann,ou=A"), tree(), "rename", BOB, "cn=Bob", under="cn=ann,ou=a")


class TestValues(TreeTest):

    def renamed(self, entry, leaf, keep=False, **expected):
        """Renames an entry that is added, and looks at its values."""
        directory = tree(entry)
        directory.rename(entry.name, leaf, keep=keep)
        above = entry.name.text.partition(",")[2]
        self.holds(directory[f"{leaf},{above}" if above else leaf], **expected)

    def test_old_values_disappear_and_new_ones_are_added(self):
        entry = person("cn=Dan,ou=A", cn=("x", "DAN", "y"))
        self.renamed(entry, "cn=Eve", cn=("x", "y", "Eve"))
        self.renamed(entry, "cn=Eve", keep=True, cn=("x", "DAN", "y", "Eve"))
        self.renamed(entry, "cn=X", cn=("x", "y"))
        self.renamed(entry, "cn=X", keep=True, cn=("x", "DAN", "y"))
        self.renamed(entry, "cn=dan", cn=("x", "DAN", "y"))
        self.renamed(entry, "cn=dan", keep=True, cn=("x", "DAN", "y"))

    def test_leaves_with_several_pairs(self):
        entry = person("cn=Dan+mail=m+age=5,ou=A", cn=("Dan",), mail=("M", "n"), age=("5",))
        self.renamed(entry, "cn=Dan", cn=("Dan",), mail=("n",), age=())
        self.renamed(entry, "cn=Dan", keep=True, cn=("Dan",), mail=("M", "n"), age=("5",))
        self.renamed(entry, "age=5+cn=Eve", cn=("Eve",), mail=("n",), age=("5",))
        self.renamed(entry, "cn=DAN+code=c+mail=n", cn=("Dan",), mail=("n",), age=(), code=("c",))
        self.renamed(entry, "age=6+mail=o+cn=Dan", age=("6",), mail=("n", "o"), cn=("Dan",))

    def test_values_are_equal_by_the_syntax(self):
        entry = person("cn=Dan,ou=A", code=("X",), luck=("7",))
        self.renamed(entry, "cn=dan+code=x", code=("X", "x"), cn=("Dan",))
        self.renamed(entry, "cn=dan+luck=7+code=X", code=("X",), luck=("7",))
        self.renamed(entry.with_values(link=("cn=A",)), "cn=dan+link=cn\\=a", link=("cn=A",))
        entry = person("code=C+cn=Dan,ou=A", cn=("Dan",), code=("c", "C"))
        self.renamed(entry, "cn=Dan", code=("c",))
        self.renamed(entry, "cn=Dan+code=c", code=("c",))

    def test_an_attribute_without_values_is_gone(self):
        directory = tree(person("cn=Dan+code=c,ou=A", cn=("Dan",), code=("c",)))
        directory.rename("cn=dan+code=c,ou=a", "cn=Dan")
        self.assertEqual(directory["cn=dan,ou=a"].words, ("cn", "kind"))

    def test_rules(self):
        for leaf, keep, expected in (
                ("none=x", False, attribute("UnknownAttribute", "none")),
                ("none=x", True, attribute("UnknownAttribute", "none")),
                ("team=x", False, attribute("MirrorGiven", "team")),
                ("kind=none", False, given("UnknownClass", "none")),
                ("kind=unit", False, ("BadClasses", {})),
                ("ref=west", True, attribute("NotAllowed", "ref")),
                ("age=5", False, attribute("Missing", "cn")),
                ("age=5+cn=Bob", False, attribute("TooManyValues", "age")),
                ("luck=x+cn=Bob", False, attribute("BadValue", "luck", "x")),
                ("boss=ou\\=A+cn=Bob", False, attribute("NotNamed", "boss")),
                ("boss=x+cn=Bob", False, attribute("BadValue", "boss", "x"))):
            directory = tree(person("cn=Dan,ou=A", age=("4",)))
            self.refused(expected, directory, "rename", "cn=dan,ou=a", leaf, keep=keep)

    def test_a_pair_with_the_class_as_value(self):
        entry = Entry("kind=unit,ou=A", kind=("unit",), ou=("x",), ref=("west",))
        directory = tree(entry, unit("ou=below,kind=unit,ou=A"))
        self.refused(("BadClasses", {}), directory, "rename", "kind=unit,ou=a", "kind=referral", keep=True)
        self.refused(given("HasChildren", "kind=referral,ou=A"), directory, "rename", "kind=unit,ou=a", "kind=referral")
        directory.delete("ou=below,kind=unit,ou=a")
        directory.rename("kind=unit,ou=a", "kind=referral")
        self.holds(directory["kind=referral,ou=a"], kind=("referral",))

    def test_rule_8_for_the_entries_straight_below(self):
        entry = Entry("kind=chief+cn=Dan,ou=A", kind=("chief", "tag"), cn=("Dan",), luck=("1",))
        below = [person(f"cn={word},kind=chief+cn=dan,ou=A", kind=("chief",)) for word in ("z", "C")]
        directory = tree(entry, *below)
        self.assertEqual(directory.rename("cn=dan+kind=chief,ou=a", "cn=Dan+kind=person", under="ou=z"), (
            "kind=chief+cn=Dan,ou=A", "cn=C,kind=chief+cn=Dan,ou=A", "cn=z,kind=chief+cn=Dan,ou=A",
            "cn=Dan+kind=person,ou=Z", "cn=C,cn=Dan+kind=person,ou=Z", "cn=z,cn=Dan+kind=person,ou=Z"))
        plain = Entry("kind=unit+ou=q,ou=A", kind=("unit", "tag"), ou=("q",), cn=(), luck=("5",))
        persons = [person(f"cn={word},kind=unit+ou=q,ou=A") for word in ("z", "C")]
        directory = tree(plain, *persons)
        self.refused(attribute("Missing", "cn"), directory, "rename", "ou=q+kind=unit,ou=a", "kind=person+ou=q")
        self.refused(given("BadPlace", "cn=C,kind=person+cn=x+ou=q,ou=Z"), directory, "rename", "ou=q+kind=unit,ou=a",
                     "kind=person+cn=x+ou=q", under="ou=z")


class TestWhatFollows(TreeTest):

    def test_names_below_and_tracked_values(self):
        directory = tree(person("cn=Dan,ou=Z", peer=("ou=a", "cn=cid,ou=b,ou=a", "ou=z"), link=("ou=A",)))
        self.assertEqual(directory.rename("ou=a", "ou=New  one", under="ou=z"), (
            "ou=A", "cn=Ann,ou=A", "cn=Bob,ou=A", "ou=B,ou=A", "cn=Cid,ou=B,ou=A", "cn=Dan,ou=Z", "ou=New  one,ou=Z",
            "cn=Ann,ou=New  one,ou=Z", "cn=Bob,ou=New  one,ou=Z", "ou=B,ou=New  one,ou=Z", "cn=Cid,ou=B,ou=New  one,ou=Z"))
        above = "ou=New  one,ou=Z"
        self.holds(directory["cn=dan,ou=z"], peer=(above, "cn=Cid,ou=B," + above, "ou=Z"), link=("ou=A",))
        self.holds(directory["cn=cid,ou=b,ou=new one,ou=z"], boss=("cn=Bob," + above, "cn=Ann," + above))
        self.holds(directory["cn=ann,ou=new one,ou=z"], peer=("cn=Ann," + above,),
                   team=("cn=Bob," + above, "cn=Cid,ou=B," + above))
        self.holds(directory[above], ou=("New  one",))

    def test_another_text_of_the_same_name(self):
        directory = tree()
        self.assertEqual(directory.rename("ou=a", "ou=a"), NAMES_IN_LOWER_CASE)
        self.holds(directory[CID], boss=("cn=Bob,ou=a", "cn=Ann,ou=a"))
        self.holds(directory["ou=A"], ou=("A",))

    def test_values_that_become_equal(self):
        """Between deeds of a unit, a value may name what only a rename makes a name of an entry."""
        directory = tree()
        directory.apply((
            ("modify", BOB, (("replace", "boss", ("cn=EVE,ou=a", "ou=z", "cn=ann,ou=a", "ou=a")),)),
            ("rename", "cn=ann,ou=A", "cn=Eve", None, False)))
        self.holds(directory[BOB], boss=("cn=Eve,ou=A", "ou=Z", "ou=A"))
        self.holds(directory[CID], boss=(BOB, "cn=Eve,ou=A"))

    def test_values_that_name_no_entry_below_do_not_follow(self):
        directory = tree()
        directory.apply((
            ("modify", BOB, (("replace", "boss", ("cn=later,ou=z", "ou=Z")),)),
            ("rename", "ou=z", "ou=Y", None, False),
            ("add", unit("ou=z")),
            ("add", person("cn=Later,ou=z"))))
        self.holds(directory[BOB], boss=("cn=Later,ou=z", "ou=Y"))

    def test_other_entries_stay(self):
        directory = tree(unit("ou=AB"), unit("ou=B"), unit("ou=A,ou=B"))
        directory.rename("ou=a", "ou=X")
        self.assertEqual(names_of(directory), ("ou=AB", "ou=B", "ou=A,ou=B", "ou=X", "cn=Ann,ou=X", "cn=Bob,ou=X",
                                               "ou=B,ou=X", "cn=Cid,ou=B,ou=X", "ou=Z"))

    def test_an_entry_that_moves_below_its_neighbour(self):
        directory = tree(person("cn=Dan,ou=A", kind=("chief",), boss=(BOB,)))
        self.assertEqual(directory.rename("cn=dan,ou=a", "cn=Dan", under="cn=BOB,ou=a"),
                         ("cn=Dan,cn=Bob,ou=A", "cn=Dan,ou=A"))
        self.assertEqual(directory.children(BOB), ("cn=Dan,cn=Bob,ou=A",))
        self.holds(directory[BOB], team=("cn=Dan,cn=Bob,ou=A", CID))

    def test_the_new_name_of_the_entry_itself_in_a_value_of_its_leaf(self):
        """A value of a tracked attribute that the new leaf brings follows, too, before rule 7 refuses the pair."""
        directory = tree(person("cn=Dan,ou=A", kind=("deputy",), boss=("ou=A",)))
        self.refused(attribute("NotNamed", "boss"), directory, "rename", "cn=dan,ou=a", "cn=Dan+boss=cn\\=dan\\,ou\\=a")


NAMES_IN_LOWER_CASE = ("ou=a", "cn=Ann,ou=a", "cn=Bob,ou=a", "ou=B,ou=a", "cn=Cid,ou=B,ou=a")


class TestReferrals(TreeTest):

    def test_with_manage(self):
        directory = tree(referral("ou=R", "west"))
        self.assertEqual(directory.rename("ou=r", "ou=S", under="ou=a", manage=True), ("ou=S,ou=A", "ou=R"))


if __name__ == "__main__":
    unittest.main()
