"""Points [15] and [16]: apply, undo and attempt."""

import unittest

from dirservice.directories import Directory
from dirservice.entries import Entry
from dirservice.errors import HasChildren, NoEntry
from dirservice.indexes import add_index, candidates, drop_index
from dirservice.names import Name
from dirservice.schemas import Attribute, ObjectClass, Schema
from tests.samples import outcome
from tests.test_modify import attribute
from tests.trees import NAMES, TreeTest, facts_of, given, names_of, no_entry, person, tree, tree_schema, unit

BOB, CID = "cn=Bob,ou=A", "cn=Cid,ou=B,ou=A"
NOTHING = ("NothingToUndo", {})


def bad(place):
    return ("BadDeed", {"place": place})


class TestForms(TreeTest):

    def test_deeds_that_are_no_tuple(self):
        for deeds in (None, True, 5, "add", [], [("delete", "ou=z")], {}):
            self.refused(bad(None), tree(), "apply", deeds)

    def test_members_that_are_no_deeds(self):
        entry, change = unit("ou=x"), ("add", "mail", ("x",))
        wrong = [None, True, 5, "add", [], {}, (), ("add",), entry, ["delete", "ou=z"], ("",), (None, "ou=z"),
                 ("Add", entry), ("remove", "ou=z"), (["add"], entry), (True, "ou=z"),
                 ("add", entry, None), ("add", "ou=x"), ("add", None), ("add", (entry,)), ("add", Name("ou=x")),
                 ("delete",), ("delete", "ou=z", False), ("delete", Name("ou=z")), ("delete", None), ("delete", 5),
                 ("delete", entry), ("delete", b"ou=z"),
                 ("modify", "ou=z"), ("modify", "ou=z", (), ()), ("modify", Name("ou=z"), ()), ("modify", None, ()),
                 ("modify", "ou=z", None), ("modify", "ou=z", [change]), ("modify", "ou=z", "add"), ("modify", (), ()),
                 ("move", "ou=z", "ou=x", None, False), ("rename", "ou=z", "ou=x"), ("rename", "ou=z", "ou=x", None), ("rename", "ou=z", "ou=x", None, False, 1),
                 ("rename", Name("ou=z"), "ou=x", None, False), ("rename", None, "ou=x", None, False),
                 ("rename", "ou=z", Name("ou=x"), None, False), ("rename", "ou=z", None, None, False),
                 ("rename", "ou=z", 5, None, False), ("rename", "ou=z", "ou=x", Name("ou=A"), False),
                 ("rename", "ou=z", "ou=x", 5, False), ("rename", "ou=z", "ou=x", (), False),
                 ("rename", "ou=z", "ou=x", None, None), ("rename", "ou=z", "ou=x", None, 0),
                 ("rename", "ou=z", "ou=x", None, 1), ("rename", "ou=z", "ou=x", None, "TRUE")]
        for deed in wrong:
            with self.subTest(deed):
                self.refused(bad(0), tree(), "apply", (deed, None))
                self.refused(bad(1), tree(), "apply", (("delete", "ou=z"), deed))
                # The form of all deeds is looked at before the first one is done.
                self.refused(bad(2), tree(), "apply", (("delete", "ou=nowhere"), ("modify", "no name", ()), deed))

    def test_errors_of_deeds_come_in_their_turn(self):
        for deed, expected in ((("delete", "no name"), given("BadName", "no name")),
                               (("modify", "no name", (None,)), given("BadName", "no name")),
                               (("modify", "ou=nowhere", ((), None)), ("BadChange", {"place": 0})),
                               (("rename", "no name", "no leaf", "none", False), given("BadName", "no name")),
                               (("rename", "ou=nowhere", "no leaf", "none", False), given("BadName", "no leaf")),
                               (("rename", "ou=nowhere", "ou=x", "none", False), given("BadName", "none")),
                               (("rename", "ou=nowhere", "ou=x", "", True), no_entry("ou=nowhere")),
                               (("add", Entry("")), given("NameTaken", ""))):
            with self.subTest(deed):
                self.refused(expected, tree(), "apply", (deed,))
                self.refused(expected, tree(), "apply", (("delete", "ou=z"), deed, ("delete", "ou=z")))
                self.refused(given("HasChildren", "ou=A"), tree(), "apply", (("delete", "ou=z"), ("delete", "ou=a"), deed))


class TestApply(TreeTest):

    def test_all_deeds_are_done_one_after_the_other(self):
        directory = tree()
        told = directory.apply(deeds=(
            ("add", unit("ou=New")),
            ("rename", "cn=cid,ou=b,ou=a", "cn=Kit", "ou=NEW", False),
            ("modify", "cn=kit,ou=new", (("add", "age", ("5",)), ("increment", "age", 1))),
            ("delete", "ou=b,ou=a"),
            ("delete", "cn=bob,ou=a"),
            ("rename", "ou=new", "ou=Newer", None, True)), manage=False)
        self.assertEqual(told, (BOB, "ou=B,ou=A", CID, "ou=Newer", "cn=Kit,ou=Newer"))
        self.assertEqual(names_of(directory), ("ou=A", "cn=Ann,ou=A", "ou=Newer", "cn=Kit,ou=Newer", "ou=Z"))
        self.holds(directory["cn=kit,ou=newer"], cn=("Kit",), age=("6",), boss=("cn=Ann,ou=A",))
        self.holds(directory["ou=newer"], ou=("New", "Newer"))
        self.assertEqual(directory.undoable, 1)
        directory.undo()
        self.assertEqual(directory, tree())

    def test_the_result_is_that_of_the_whole_unit(self):
        directory = tree()
        self.assertEqual(directory.apply(()), ())
        self.assertEqual(directory.apply((("add", unit("ou=x")), ("delete", "ou=x"))), ())
        self.assertEqual(directory.apply((("rename", "ou=z", "ou=y", None, False), ("rename", "ou=y", "ou=Z", None, False))), ())
        self.assertEqual(directory.apply((("delete", "ou=z"), ("add", unit("ou=z")))), ("ou=z",))
        self.assertEqual(directory.apply((("delete", "ou=z"), ("add", unit("ou=z")))), ())
        self.assertEqual(directory.undoable, 5)

    def test_nothing_is_done_if_the_last_deed_raises_its_error(self):
        deeds = (("add", unit("ou=x")), ("rename", BOB, "cn=Rob", "ou=b,ou=A", False), ("delete", "ou=z"),
                 ("modify", CID, (("delete", "mail", ()),)))
        for last, expected in ((("delete", "ou=z"), no_entry("ou=z")), (("add", unit("ou=X")), given("NameTaken", "ou=x")),
                               (("modify", CID, (("delete", "mail", ()),)), attribute("NoValue", "mail", "")),
                               (("rename", "ou=x", "ou=a", None, False), given("NameTaken", "ou=A"))):
            self.refused(expected, tree(), "apply", deeds + (last,))
        self.assertEqual(len(tree().apply(deeds)), 5)

    def test_rule_10_is_checked_at_the_end(self):
        directory = tree()
        directory.apply((("modify", BOB, (("add", "boss", ("cn=Eve,ou=Z", "ou=later")),)),
                         ("add", person("cn=EVE,ou=z", boss=("ou=LATER", "cn=eve,ou=z"))),
                         ("add", unit("ou=Later"))))
        self.holds(directory[BOB], boss=("cn=Ann,ou=A", "cn=EVE,ou=Z", "ou=Later"))
        self.holds(directory["cn=eve,ou=z"], boss=("ou=Later", "cn=EVE,ou=Z"), team=(BOB, "cn=EVE,ou=Z"))

    def test_rule_10_in_the_order_of_names(self):
        deeds = (("modify", CID, (("add", "boss", ("ou=q",)),)), ("modify", BOB, (("add", "peer", ("ou=r",)),)),
                 ("add", person("cn=Dan,ou=A", boss=("ou=s",))))
        self.refused(attribute("NoTarget", "peer", "ou=r"), tree(), "apply", deeds)
        self.refused(attribute("NoTarget", "boss", "ou=s"), tree(), "apply", deeds[::2])
        self.refused(attribute("NoTarget", "boss", "ou=q"), tree(), "apply", deeds[:1])
        # The errors of deeds come first.
        self.refused(no_entry("ou=w"), tree(), "apply", deeds + (("delete", "ou=w"),))

    def test_rule_10_in_the_order_of_words(self):
        schema = Schema((Attribute("ou"), Attribute("zz", "name", tracked=True), Attribute("aa", "name", tracked=True)),
                        (ObjectClass("unit", may=("ou", "zz", "aa")),))
        entry = Entry("ou=a", kind=("unit",), ou=("a",), zz=("ou=z",), aa=("ou=a", "ou=y", "ou=x"))
        self.refused(attribute("NoTarget", "aa", "ou=y"), Directory(schema), "add_entry", entry)

    def test_values_are_forgotten_if_the_entry_goes_within_the_unit(self):
        directory = tree()
        directory.apply((("add", unit("ou=x")), ("modify", BOB, (("add", "boss", ("ou=X",)),)), ("delete", "ou=x")))
        self.holds(directory[BOB], boss=("cn=Ann,ou=A",))
        # The deed delete lets values disappear only if they name its entry then.
        self.refused(attribute("NoTarget", "boss", "ou=X"), directory, "apply", (
            ("add", unit("ou=x")), ("delete", "ou=x"), ("modify", BOB, (("add", "boss", ("ou=X",)),))))
        self.refused(("InUse", {"holder": "cn=Dan,ou=Z"}), directory, "apply", (
            ("add", unit("ou=x")), ("add", person("cn=Dan,ou=Z", kind=("deputy",), boss=("ou=X",))), ("delete", "ou=x")))

    def test_entries_are_counted_within_a_unit(self):
        directory = Directory(tree_schema(), tuple(unit(f"ou=u{number}") for number in range(299)))
        one, two = ("add", unit("ou=one")), ("add", unit("ou=two"))
        self.refused(("Full", {"limit": 300}), directory, "apply", (one, two, ("delete", "ou=u5")))
        self.assertEqual(directory.apply((one, ("delete", "ou=u5"), two)), ("ou=one", "ou=two", "ou=u5"))

    def test_names_and_texts_within_a_unit(self):
        directory = tree()
        self.assertEqual(directory.apply((("add", unit("ou=Top")), ("add", unit("ou=in,ou=TOP")),
                                          ("rename", "ou=top", "ou=tOp", None, False))), ("ou=tOp", "ou=in,ou=tOp"))

    def test_the_order_of_names_within_a_unit(self):
        deputies = tuple(("add", person(f"cn={word},ou=A", kind=("deputy",), boss=("ou=z",))) for word in ("Zoe", "Aa", "Bea"))
        self.refused(("InUse", {"holder": "cn=Aa,ou=A"}), tree(), "apply", deputies + (("delete", "ou=z"),))
        units = (("add", unit("ou=x,ou=z")), ("add", person("cn=Zoe,ou=x,ou=z")), ("add", person("cn=Aa,ou=x,ou=z")),
                 ("modify", "ou=x,ou=z", (("replace", "kind", ("person",)), ("add", "cn", ("x",)))))
        self.refused(given("BadPlace", "cn=Aa,ou=x,ou=Z"), tree(), "apply", units)

    def test_deeds_are_not_changed(self):
        deeds = (("modify", BOB, (("add", "boss", ("ou=z",)),)), ("add", person("cn=d,ou=a", boss=("ou=z",))))
        tree().apply(deeds)
        self.assertEqual(deeds, (("modify", BOB, (("add", "boss", ("ou=z",)),)),
                                 ("add", person("cn=d,ou=a", boss=("ou=z",)))))


class TestUndo(TreeTest):

    def test_nothing_to_undo(self):
        self.refused(NOTHING, tree(), "undo")
        directory = tree()
        directory.delete("ou=z")
        self.assertIsNone(directory.undo())
        self.refused(NOTHING, directory, "undo")

    def test_each_deed(self):
        directory = tree()
        add_index(directory, "cn", "equal")
        for word, arguments in (("add_entry", (unit("ou=x"),)), ("delete", ("cn=ann,ou=a",)), ("apply", ((("delete", CID),),)),
                                ("modify", (BOB, (("increment", "luck", 5),))), ("rename", ("ou=a", "ou=y")),
                                ("apply", ((),)), ("modify", (BOB, ()))):
            before = facts_of(directory)
            getattr(directory, word)(*arguments)
            self.assertEqual(directory.undoable, 1)
            directory.undo()
            self.assertEqual(facts_of(directory), before)
            self.assertEqual(directory, tree())

    def test_twenty_times_and_once_more(self):
        directory, states = tree(), []
        for number in range(25):
            states.append(facts_of(directory)[0])
            directory.modify(BOB, (("increment", "luck", number),))
            self.assertEqual(directory.undoable, min(number + 1, 20))
        for number in range(24, 4, -1):
            directory.undo()
            self.assertEqual(facts_of(directory)[0], states[number])
            self.assertEqual(directory.undoable, number - 5)
        self.refused(NOTHING, directory, "undo")

    def test_units_that_change_nothing_count(self):
        directory = tree()
        directory.delete("ou=z")
        directory.apply(())
        directory.modify(BOB, ())
        self.assertEqual(directory.undoable, 3)
        directory.undo()
        directory.undo()
        self.assertNotIn("ou=z", directory)
        directory.undo()
        self.assertIn("ou=z", directory)

    def test_deeds_that_raise_errors_do_not_count(self):
        directory = tree()
        directory.delete("ou=z")
        with self.assertRaises(NoEntry):
            directory.delete("ou=z")
        with self.assertRaises(HasChildren):
            directory.apply((("add", unit("ou=x")), ("delete", "ou=a")))
        self.assertEqual(directory.undoable, 1)
        directory.undo()
        self.assertEqual(directory, tree())

    def test_deeds_after_undoing(self):
        directory = tree()
        for name in ("ou=q", "ou=r", "ou=s"):
            directory.add_entry(unit(name))
        directory.undo()
        directory.undo()
        directory.add_entry(unit("ou=t"))
        self.assertEqual(directory.undoable, 2)
        directory.undo()
        self.assertEqual(directory.children(), ("ou=A", "ou=q", "ou=Z"))
        directory.undo()
        self.assertEqual(directory.children(), ("ou=A", "ou=Z"))
        self.refused(NOTHING, directory, "undo")

    def test_indexes_stay(self):
        directory = tree()
        directory.delete("ou=z")
        add_index(directory, "ou", "equal")
        directory.undo()
        self.assertEqual(directory.indexes, (("ou", "equal"),))
        self.assertEqual(candidates(directory, "(ou=z)"), ("ou=Z",))


class TestAttempt(TreeTest):

    def test_what_is_returned(self):
        for value in (None, 5, "x", (), [1], unit("ou=x")):
            self.assertEqual(tree().attempt(lambda directory: value), value)
        directory = tree()
        self.assertIs(directory.attempt(function=lambda same: same), directory)

    def test_the_directory_is_as_before(self):
        directory = tree(unit("ou=x"))
        add_index(directory, "cn", "equal")
        directory.delete("ou=x")
        before = facts_of(directory)

        def change(same):
            told = [same.add_entry(unit("ou=y")), same.undoable]
            same.undo()
            same.undo()
            told.append(same.undoable)
            same.rename("ou=z", "ou=w")
            same.delete("cn=ann,ou=a")
            drop_index(same, "cn", "equal")
            add_index(same, "ou", "pieces")
            return told, names_of(same), same.indexes, same.undoable

        told, names, indexes, undoable = directory.attempt(change)
        self.assertEqual(told, [("ou=y",), 2, 0])
        self.assertEqual(names, ("ou=A", BOB, "ou=B,ou=A", CID, "ou=w", "ou=x"))
        self.assertEqual((indexes, undoable), ((("ou", "pieces"),), 2))
        self.assertEqual(facts_of(directory), before)
        self.assertEqual(directory, tree())
        directory.undo()
        self.assertIn("ou=x", directory)

    def test_errors_pass(self):
        def own(directory):
            directory.delete("ou=z")
            directory.delete("ou=z")

        def other(directory):
            directory.delete("ou=z")
            raise KeyboardInterrupt("x")

        directory = tree()
        before = facts_of(directory)
        self.assertEqual(outcome(directory.attempt, own), no_entry("ou=z"))
        self.assertEqual(facts_of(directory), before)
        with self.assertRaises(KeyboardInterrupt):
            directory.attempt(other)
        self.assertEqual(facts_of(directory), before)

    def test_more_units_than_can_be_undone(self):
        directory = tree()
        for number in range(20):
            directory.modify(BOB, (("increment", "luck", 1),))
        before = facts_of(directory)

        def many(same):
            for _ in range(30):
                same.modify(BOB, (("increment", "luck", 1),))
            while same.undoable:
                same.undo()
            return same[BOB]["luck"]

        self.assertEqual(directory.attempt(many), ("33", "26"))
        self.assertEqual(facts_of(directory), before)
        for _ in range(20):
            directory.undo()
        self.assertEqual(directory, tree())

    def test_an_attempt_within_an_attempt(self):
        directory = tree()
        before = facts_of(directory)

        def outer(same):
            same.delete("ou=z")
            middle = facts_of(same)
            inner = same.attempt(lambda one: (one.delete("cn=ann,ou=a"), one.undo(), one.undo(), names_of(one)))
            self.assertEqual(facts_of(same), middle)
            self.assertEqual(outcome(same.attempt, lambda one: one.apply((("delete", CID), ("delete", CID)))),
                             no_entry(CID, "ou=B,ou=A"))
            self.assertEqual(facts_of(same), middle)
            return inner[3], names_of(same)

        self.assertEqual(directory.attempt(outer), (NAMES, NAMES[:5]))
        self.assertEqual(facts_of(directory), before)

    def test_other_directories_keep_what_is_done(self):
        directory, other = tree(), tree()
        directory.attempt(lambda same: other.delete("ou=z"))
        self.assertEqual(len(other), 5)


if __name__ == "__main__":
    unittest.main()
