"""The interface of dirservice/directories.py apart from the deeds; points [4] (mirrors) and [13] (texts of names)."""

import itertools
import types
import unittest

from dirservice.directories import MAX_DEPTH, MAX_ENTRIES, MAX_UNDO, Directory
from dirservice.entries import Entry
from dirservice.filters import Present
from dirservice.indexes import add_index
from dirservice.leaves import MAX_LEAVES
from dirservice.names import Name
from dirservice.schemas import Attribute, ObjectClass, Schema
from tests.samples import outcome
from tests.trees import ENTRIES, NAMES, TreeTest, given, names_of, no_entry, person, tree, tree_schema, unit, values_of

NO_NAMES = ("cn=a, ou=b", "a", " ", ",", "cn=a\n", None, True, 5, ("cn=a",), ["cn=a"], b"cn=a", {}, Entry("cn=a"))


class TestConstructor(TreeTest):

    def test_constants(self):
        self.assertEqual((MAX_ENTRIES, MAX_DEPTH, MAX_UNDO), (300, 12, 20))
        self.assertEqual(MAX_DEPTH, MAX_LEAVES)

    def test_what_is_told(self):
        for directory in (Directory(tree_schema()), Directory(schema=tree_schema(), entries=())):
            self.assertEqual((len(directory), directory.indexes, directory.undoable), (0, (), 0))
            self.assertEqual(list(directory.walk()), [])
        directory = tree()
        self.assertEqual(directory.schema, tree_schema())
        self.assertEqual((len(directory), directory.indexes, directory.undoable), (6, (), 0))
        self.assertEqual(names_of(directory), NAMES)

    def test_entries_that_are_none(self):
        for wrong in (None, True, 5, "ou=A", [], [unit("ou=A")], {}, unit("ou=A"), {"ou=A": unit("ou=A")}):
            self.assertEqual(outcome(Directory, tree_schema(), wrong), given("BadEntry", wrong))
        for wrong in (None, True, 5, "ou=A", (), (unit("ou=A"),), [], Name("ou=A"), {}):
            for entries in ((wrong,), (unit("ou=A"), wrong, None), (unit("ou=A"), unit("ou=A"), wrong)):
                self.assertEqual(outcome(Directory, tree_schema(), entries), given("BadEntry", wrong))

    def test_entries_are_added_in_their_order(self):
        self.assertEqual(outcome(Directory, tree_schema(), (unit("ou=B,ou=A"), unit("ou=A"))), no_entry("ou=A"))
        self.assertEqual(outcome(Directory, tree_schema(), (unit("ou=A"), unit("ou=a"))), given("NameTaken", "ou=A"))
        wrong = (unit("ou=A"), unit("ou=B", age=("5",)), unit("ou=A"))
        self.assertEqual(outcome(Directory, tree_schema(), wrong), ("NotAllowed", {"attribute": "age"}))

    def test_entries_may_name_later_ones(self):
        entries = (unit("ou=A", boss=("cn=X,ou=a",)), person("cn=x,ou=A", boss=("ou=a",)))
        directory = Directory(tree_schema(), entries)
        self.assertEqual(directory["ou=a"]["boss"], ("cn=x,ou=A",))
        self.assertEqual(directory["cn=x,ou=a"]["boss"], ("ou=A",))
        self.assertEqual(entries[0]["boss"], ("cn=X,ou=a",))

    def test_every_value_must_name_an_entry(self):
        entries = (unit("ou=b", boss=("ou=b", "ou=c", "ou=d")), unit("ou=a", boss=("ou=B", "ou=e")))
        self.assertEqual(outcome(Directory, tree_schema(), entries), ("NoTarget", {"attribute": "boss", "item": "ou=e"}))
        entries = (unit("ou=b", boss=("ou=b", "ou=c", "ou=d")), unit("ou=c"))
        self.assertEqual(outcome(Directory, tree_schema(), entries), ("NoTarget", {"attribute": "boss", "item": "ou=d"}))
        entries = (unit("ou=a"), person("cn=x,ou=a", peer=("ou=q",), boss=("ou=R",)))
        self.assertEqual(outcome(Directory, tree_schema(), entries), ("NoTarget", {"attribute": "boss", "item": "ou=R"}))

    def test_three_hundred_entries(self):
        entries = tuple(unit(f"ou=u{number}") for number in range(300))
        self.assertEqual(len(Directory(tree_schema(), entries)), 300)
        self.assertEqual(outcome(Directory, tree_schema(), entries + (unit("ou=more"),)), ("Full", {"limit": 300}))
        # All else is looked at first.
        self.assertEqual(outcome(Directory, tree_schema(), entries + (unit("ou=U7"),)), given("NameTaken", "ou=u7"))


class TestNames(TreeTest):

    def test_texts_are_those_that_were_passed(self):
        directory = Directory(tree_schema(), (unit("ou=Top"), unit("ou=In  side,ou=TOP"),
                                              person("cn=X+ou=q,ou=in side,ou=top", cn=("x",), ou=("Q",))))
        self.assertEqual(names_of(directory), ("ou=Top", "ou=In  side,ou=Top", "cn=X+ou=q,ou=In  side,ou=Top"))
        self.assertEqual(directory["ou=q+cn=X,ou=in side,ou=tOP"].name.text, "cn=X+ou=q,ou=In  side,ou=Top")

    def test_order(self):
        names = ("ou=b", "ou=a b", "ou=a", "ou=b,ou=a", "ou=a,ou=b", "ou=a,ou=a", "ou=B+code=1", "ou=a!", "ou=c,ou=a,ou=b")
        expected = ["ou=B+code=1", "ou=a", "ou=a,ou=a", "ou=b,ou=a", "ou=a b", "ou=a!", "ou=b", "ou=a,ou=b", "ou=c,ou=a,ou=b"]
        entries = [Entry(name, kind=("unit",), ou=(name[3:].split(",")[0],)) for name in names if "+" not in name]
        entries = sorted(entries, key=lambda entry: entry.name.depth)
        entries.append(Entry("ou=B+code=1", kind=("unit",), ou=("b",), code=("1",)))
        directory = Directory(tree_schema(), tuple(entries))
        self.assertEqual(list(names_of(directory)), expected)
        self.assertEqual(directory.children(), ("ou=B+code=1", "ou=a", "ou=a b", "ou=a!", "ou=b"))


class TestBrackets(TreeTest):

    def test_entries_are_returned(self):
        directory = tree()
        for name in ("cn=Bob,ou=A", "cn=BOB,ou=a", Name("cn=\\ bob,ou=A")):
            entry = directory[name]
            self.assertIs(type(entry), Entry)
            self.assertEqual(entry.name.text, "cn=Bob,ou=A")
            self.assertEqual(values_of(entry), {
                "kind": ("person",), "cn": ("Bob",), "luck": ("3", "-4"), "boss": ("cn=Ann,ou=A",),
                "team": ("cn=Cid,ou=B,ou=A",), "crew": ("cn=Cid,ou=B,ou=A",)})

    def test_errors(self):
        directory = tree()
        for wrong in NO_NAMES:
            self.refused(given("BadName", wrong), directory, "__getitem__", wrong)
        for missing, matched in (("", ""), ("ou=q", ""), ("cn=Ann", ""), ("cn=ann,ou=a,ou=q", ""), ("cn=x,ou=a", "ou=A"),
                                 ("cn=x,cn=ann,ou=a", "cn=Ann,ou=A"),
                                 ("cn=x,cn=y,ou=b,ou=a", "ou=B,ou=A"), ("ou=B,ou=z", "ou=Z")):
            self.refused(no_entry(missing, matched), directory, "__getitem__", missing)
            self.refused(no_entry(missing, matched), directory, "__getitem__", Name(missing))

    def test_in(self):
        directory = tree()
        for name in NAMES + ("cn=ANN,ou=A", "ou=a", "cn=CID,ou=b,ou=a", Name("ou=Z"), Name("cn=bob,ou=a")):
            self.assertIs(name in directory, True)
        for value in NO_NAMES + ("", Name(""), "ou=q", "cn=Ann", Name("cn=Ann"), "ou=A,ou=A", unit("ou=A"), NAMES, directory):
            self.assertIs(value in directory, False)

    def test_len(self):
        directory = tree()
        directory.add_entry(unit("ou=x"))
        self.assertEqual(len(directory), 7)
        directory.delete("ou=x")
        directory.delete("ou=z")
        self.assertEqual(len(directory), 5)

    def test_directories_are_not_iterated(self):
        for function in (iter, list, tuple, sorted):
            with self.assertRaises(TypeError):
                function(tree())


class TestMirrors(TreeTest):

    def test_values_are_in_the_order_of_names(self):
        directory = Directory(tree_schema(), (
            unit("ou=b", boss=("ou=a",)), unit("ou=a", boss=("ou=b", "ou=a")), person("cn=z,ou=a", boss=("ou=A",)),
            person("cn=Y,ou=a", boss=("ou=B", "ou=a"), peer=("ou=a",)), unit("ou=c")))
        self.holds(directory["ou=a"], team=("ou=a", "cn=Y,ou=a", "cn=z,ou=a", "ou=b"), mates=("cn=Y,ou=a",), boss=("ou=b", "ou=a"))
        self.holds(directory["ou=b"], team=("ou=a", "cn=Y,ou=a"), crew=("ou=a", "cn=Y,ou=a"), mates=())
        # A mirror has values whatever classes an entry has.
        self.assertEqual(directory["ou=a"].words, ("boss", "crew", "kind", "mates", "ou", "team"))
        self.assertEqual(directory["ou=c"].words, ("kind", "ou"))

    def test_mirrors_follow_all_deeds(self):
        directory = tree()
        self.holds(directory["cn=ann,ou=a"], team=("cn=Bob,ou=A", "cn=Cid,ou=B,ou=A"), mates=("cn=Ann,ou=A",))
        directory.rename("ou=b,ou=a", "ou=New", under="ou=z")
        self.holds(directory["cn=ann,ou=a"], team=("cn=Bob,ou=A", "cn=Cid,ou=New,ou=Z"))
        directory.modify("cn=bob,ou=a", (("delete", "boss", ()),))
        self.holds(directory["cn=ann,ou=a"], team=("cn=Cid,ou=New,ou=Z",), crew=("cn=Cid,ou=New,ou=Z",))
        directory.delete("cn=cid,ou=new,ou=z")
        self.holds(directory["cn=ann,ou=a"], team=(), crew=())
        directory.add_entry(person("cn=Dan,ou=A", boss=("cn=ann,ou=a",)))
        self.holds(directory["cn=ann,ou=a"], team=("cn=Dan,ou=A",))
        directory.undo()
        self.holds(directory["cn=ann,ou=a"], team=())

    def test_mirrors_are_nowhere_else(self):
        directory = tree()
        for entry in directory.walk():
            self.assertEqual([word for word in entry.words if word in ("team", "crew", "mates")], [])
        self.assertEqual(directory["cn=ann,ou=a"].words, ("age", "cn", "crew", "kind", "mates", "peer", "team"))

    def test_a_schema_without_mirrors(self):
        schema = Schema((Attribute("ou"), Attribute("boss", "name", tracked=True)), (ObjectClass("unit", may=("boss", "ou")),))
        entry = unit("ou=a", boss=("ou=a",))
        self.assertEqual(Directory(schema, (entry,))["ou=a"], entry)


class TestWalk(TreeTest):

    def test_bases(self):
        directory = tree()
        for base, expected in (("", NAMES), (Name(""), NAMES), ("ou=a", NAMES[:5]), ("ou=b,ou=A", NAMES[3:5]),
                               (Name("cn=ann,ou=a"), NAMES[1:2]), ("ou=z", NAMES[5:]), ("ou=q", ()), ("ou=b", ()),
                               ("cn=x,ou=a", ())):
            self.assertEqual(tuple(entry.name.text for entry in directory.walk(base)), expected)
            self.assertEqual(tuple(entry.name.text for entry in directory.walk(base=base)), expected)
        self.assertEqual(tuple(entry.name.text for entry in directory.walk()), NAMES)

    def test_entries(self):
        self.assertEqual(list(tree().walk("cn=cid,ou=b,ou=a")), [ENTRIES[4]])

    def test_errors_come_with_the_first_item(self):
        directory = tree()
        for wrong in NO_NAMES:
            walk = directory.walk(wrong)
            self.assertIs(type(walk), types.GeneratorType)
            self.assertEqual(outcome(next, walk), given("BadName", wrong))

    def test_walks_are_apart(self):
        directory = tree()
        one, other = directory.walk(), directory.walk("ou=a")
        self.assertEqual((next(one).name.text, next(one).name.text, next(other).name.text), (*NAMES[:2], NAMES[0]))
        self.assertEqual(len(list(one)), 4)
        self.assertEqual(len(list(other)), 4)


class TestChildren(TreeTest):

    def test_names_straight_below(self):
        directory = tree()
        for expected, names in ((("ou=A", "ou=Z"), ("", Name(""))), (NAMES[1:4], ("ou=a", Name("ou=A"))),
                                (("cn=Cid,ou=B,ou=A",), ("ou=b,ou=A",)), ((), ("ou=z", "cn=ann,ou=a"))):
            for name in names:
                self.assertEqual(directory.children(name), expected)
                self.assertEqual(directory.children(name=name), expected)
        self.assertEqual(directory.children(), ("ou=A", "ou=Z"))
        self.assertEqual(Directory(tree_schema()).children(), ())

    def test_errors(self):
        directory = tree()
        for wrong in NO_NAMES:
            self.refused(given("BadName", wrong), directory, "children", wrong)
        self.refused(no_entry("ou=Q"), directory, "children", "ou=Q")
        self.refused(no_entry("ou=x,ou=Q,ou=a", "ou=A"), directory, "children", Name("ou=x,ou=Q,ou=a"))


class TestEquality(TreeTest):

    def test_equal_directories(self):
        one, other = tree(), tree()
        self.assertIs(one == other, True)
        self.assertIs(one != other, False)
        add_index(one, "cn", "equal")
        one.apply(())
        self.assertIs(one == other, True)
        self.assertIs(Directory(tree_schema()) == Directory(tree_schema()), True)
        rows = [unit("ou=A"), unit("ou=B"), unit("ou=C")]
        made = [Directory(tree_schema(), row) for row in itertools.permutations(rows)]
        self.assertTrue(all(directory == made[0] for directory in made))

    def test_different_directories(self):
        one = tree()
        for other in (Directory(tree_schema()), Directory(tree_schema(), ENTRIES[:5]), tree(unit("ou=x")),
                      Directory(tree_schema(), (unit("ou=a"),) + ENTRIES[1:]),
                      Directory(tree_schema(), (unit("ou=A", mail=("m",)),) + ENTRIES[1:])):
            self.assertIs(one == other, False)
            self.assertIs(other == one, False)
            self.assertIs(one != other, True)
        schema = Schema((Attribute("ou"),), (ObjectClass("unit", must=("ou",)),))
        like = Schema((Attribute("ou"),), (ObjectClass("unit", may=("ou",)),))
        self.assertIs(Directory(schema, (unit("ou=A"),)) == Directory(like, (unit("ou=A"),)), False)

    def test_values_of_another_kind(self):
        directory = tree()
        for other in (None, 6, ENTRIES, tree_schema(), NAMES, unit("ou=A"), Present("cn"), object()):
            self.assertIs(directory == other, False)
            self.assertIs(other == directory, False)

    def test_order_of_values_and_texts_of_names_count(self):
        one = Directory(tree_schema(), (unit("ou=a", mail=("x", "y")),))
        self.assertIs(one == Directory(tree_schema(), (unit("ou=a", mail=("y", "x")),)), False)
        self.assertIs(one == Directory(tree_schema(), (unit("ou=A", mail=("x", "y")),)), False)


if __name__ == "__main__":
    unittest.main()
