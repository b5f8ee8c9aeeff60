"""Points [26], [27] and [29], and the interface of dirservice/replicas.py: deeds, changes, vectors, marks."""

import unittest

from dirservice.directories import Directory
from dirservice.entries import Entry
from dirservice.indexes import add_index
from dirservice.names import Name
from dirservice.replicas import Change, Replica
from dirservice.schemas import Schema
from tests.replicas import ReplicaTest, exchange, facts_of, names_of, replicas, top
from tests.samples import outcome, words_of
from tests.test_federations import NO_HOSTS
from tests.trees import ENTRIES, NAMES, given, no_entry, person, referral, tree, tree_schema, unit

A, ANN, BOB, B, CID, Z = NAMES
NO_VECTORS = (True, 0, 5, "", "west", (), ("west", 1), [], [("west", 1)], {"west": 0}, {"west": -1}, {"west": True},
              {"west": "1"}, {"west": None}, {"west": 1.0}, {"West": 1}, {"": 1}, {None: 1}, {5: 1}, {"toolongone": 1},
              {("west",): 1}, {"east": 1, "west": 0}, {"self": 1})


def deeds(replica):
    return [change.deed for change in replica.changes()]


def told(replica):
    return [(change.stamp, change.number) for change in replica.changes()]


def grown():
    """A replica with the entries of the tree, which are the changes 1 to 6 in the order of ENTRIES."""
    replica = Replica("west", tree_schema())
    for entry in ENTRIES:
        replica.add_entry(entry)
    return replica


MARKS = {A: (1, "west"), B: (2, "west"), ANN: (3, "west"), BOB: (4, "west"), CID: (5, "west"), Z: (6, "west")}


class TestNewReplicas(ReplicaTest):

    def test_it_has_nothing(self):
        for word in ("west", "a", "abcdefgh"):
            replica = Replica(word, tree_schema())
            self.assertEqual((replica.word, replica.vector, replica.conflicts, replica.changes()), (word, {}, (), ()))
            self.assertEqual(replica.as_directory(), Directory(tree_schema()))
        self.assertEqual(Replica(word="west", schema=tree_schema()).word, "west")

    def test_no_hosts(self):
        for word in NO_HOSTS:
            with self.subTest(word):
                self.assertEqual(outcome(Replica, word, tree_schema()), given("BadHost", word))


class TestAsDirectory(ReplicaTest):

    def test_the_entries(self):
        self.assertEqual(grown().as_directory(), tree())
        self.assertEqual(names_of(grown()), NAMES)
        self.assertEqual(grown().as_directory().schema, tree_schema())

    def test_nothing_to_undo_and_no_index(self):
        directory = grown().as_directory()
        self.assertEqual((directory.undoable, directory.indexes, len(directory)), (0, (), 6))
        self.assertEqual(outcome(directory.undo), ("NothingToUndo", {}))

    def test_what_is_done_there_does_not_change_the_replica(self):
        replica = grown()
        before = facts_of(replica)
        directory = replica.as_directory()
        directory.rename("ou=A", "ou=New")
        directory.delete("ou=Z")
        add_index(directory, "cn", "equal")
        self.assertEqual(facts_of(replica), before)
        other = replica.as_directory()
        self.assertEqual((other, other.undoable, other.indexes), (tree(), 0, ()))
        self.assertEqual(directory.undoable, 2)

    def test_what_is_done_at_the_replica_does_not_change_it(self):
        replica = grown()
        directory = replica.as_directory()
        replica.rename("ou=A", "ou=New")
        replica.delete("ou=Z")
        self.assertEqual(directory, tree())

    def test_the_texts_of_names(self):
        replica = Replica("west", tree_schema())
        replica.add_entry(unit("ou=Big"))
        replica.add_entry(person("cn=Ann,ou=BIG", boss=("cn=ANN,ou=big",)))
        replica.rename("ou=big", "ou=New")
        self.assertEqual(names_of(replica), ("ou=New", "cn=Ann,ou=New"))
        self.holds(replica.as_directory()["cn=ann,ou=new"], boss=("cn=Ann,ou=New",), team=("cn=Ann,ou=New",))


class TestDeeds(ReplicaTest):

    def test_add(self):
        replica = Replica("west", tree_schema())
        self.assertEqual(replica.add_entry(unit("ou=A", mail=("x", "Y"))), (1, "west"))
        self.assertEqual(replica.add_entry(entry=person("cn=Ann,ou=a", boss=("cn=ann,ou=A", "ou=a"), age=("30",))), (2, "west"))
        self.assertEqual(deeds(replica), [
            ("add", None, "ou=A", (("kind", ("unit",)), ("mail", ("x", "Y")), ("ou", ("A",)))),
            ("add", (1, "west"), "cn=Ann", (("age", ("30",)), ("boss", ((2, "west"), (1, "west"))), ("cn", ("Ann",)),
                                            ("kind", ("person",)))),
        ])
        self.holds(replica.as_directory()["cn=Ann,ou=A"], boss=("cn=Ann,ou=A", "ou=A"))

    def test_delete(self):
        replica = grown()
        self.assertEqual(replica.delete("ou=z"), (7, "west"))
        self.assertEqual(replica.delete(name=Name(CID)), (8, "west"))
        self.assertEqual(deeds(replica)[6:], [("delete", MARKS[Z]), ("delete", MARKS[CID])])
        self.assertEqual(names_of(replica), (A, ANN, BOB, B))

    def test_modify(self):
        replica = grown()
        changes = (("add", "mail", ("x",)), ("replace", "mail", ()), ("delete", "luck", ("3",)), ("increment", "luck", -5),
                   ("add", "boss", (CID,)), ("delete", "boss", ("cn=ann,ou=a",)), ("add", "none", ("x",)), ("delete", "none", ()))
        self.assertEqual(replica.modify(BOB, changes), (7, "west"))
        self.assertEqual(replica.modify(name=Name(BOB), changes=()), (8, "west"))
        marked = changes[:4] + (("add", "boss", (MARKS[CID],)), ("delete", "boss", (MARKS[ANN],))) + changes[6:]
        self.assertEqual(deeds(replica)[6:], [("modify", MARKS[BOB], marked), ("modify", MARKS[BOB], ())])
        self.holds(replica.as_directory()[BOB], mail=(), luck=("-9",), boss=(CID,))

    def test_rename(self):
        replica = grown()
        self.assertEqual(replica.rename(BOB, "cn=Rob"), (7, "west"))
        self.assertEqual(replica.rename("cn=rob,ou=A", "cn=Bob", under="ou=z", keep=True), (8, "west"))
        self.assertEqual(replica.rename(name="ou=B,ou=A", leaf="ou=Bee", under=Name(""), keep=False), (9, "west"))
        self.assertEqual(replica.rename("ou=bee", "ou=B", under=Name("ou=a")), (10, "west"))
        self.assertEqual(deeds(replica)[6:], [
            ("rename", MARKS[BOB], "cn=Rob", (), False), ("rename", MARKS[BOB], "cn=Bob", MARKS[Z], True),
            ("rename", MARKS[B], "ou=Bee", None, False), ("rename", MARKS[B], "ou=B", MARKS[A], False)])
        self.assertEqual(names_of(replica), (A, ANN, B, CID, Z, "cn=Bob,ou=Z"))
        self.holds(replica.as_directory()["cn=Bob,ou=Z"], cn=("Rob", "Bob"))
        with self.assertRaises(TypeError):
            replica.rename(BOB, "cn=Rob", None)

    def test_deeds_as_in_a_directory(self):
        # Whatever is done, entries and errors are the same.
        steps = (
            ("add_entry", (person("cn=New,ou=B,ou=a", boss=("cn=new,ou=b,ou=A", ANN)),)), ("delete", (CID,)),
            ("add_entry", (person("cn=Ann,ou=A"),)), ("delete", (A,)), ("delete", ("ou=q",)), ("modify", (A, (("add", "x"),))),
            ("modify", (BOB, (("replace", "boss", ()), ("add", "age", ("1",))))), ("modify", (ANN, (("increment", "age", 5),))),
            ("modify", (BOB, (("add", "boss", (CID,)),))), ("rename", (A, "ou=New")), ("rename", ("ou=new", "cn=New")),
            ("modify", ("ou=New", (("add", "boss", ("cn=New,ou=B,ou=New",)),))), ("delete", ("cn=Ann,ou=New",)),
            ("add_entry", (None,)), ("rename", ("ou=New", "ou")), ("delete", ("ou",)), ("modify", ("ou=new", None)),
        )
        replica, directory = grown(), tree()
        for word, arguments in steps:
            with self.subTest(word, arguments=arguments):
                done = outcome(getattr(directory, word), *arguments, manage=True)
                failed = len(done) == 2 and isinstance(done[1], dict)
                count = len(replica.changes())
                expected = done if failed else (count + 1, "west")
                self.assertEqual(outcome(getattr(replica, word), *arguments), expected)
                self.assertEqual(len(replica.changes()), count + (not failed))
                self.assertEqual(replica.as_directory(), directory)
        self.assertEqual(replica.conflicts, ())

    def test_manage_is_true(self):
        replica = grown()
        replica.add_entry(referral("ou=R", "west"))
        replica.modify("ou=R", (("add", "ref", ("east",)),))
        replica.rename("ou=R", "ou=S")
        self.refused(("Referral", {"targets": ("west/ou=x", "east/ou=x")}), replica, "add_entry", unit("ou=x,ou=S"))
        self.refused(("Referral", {"targets": ("west/", "east/")}), replica, "rename", BOB, "cn=Bob", under="ou=s")
        replica.delete("ou=S")
        self.assertEqual(names_of(replica), NAMES)

    def test_errors(self):
        replica = grown()
        self.refused(given("BadEntry", None), replica, "add_entry", None)
        self.refused(given("NameTaken", BOB), replica, "add_entry", person("cn=BOB,ou=A"))
        self.refused(no_entry("ou=q,ou=a", A), replica, "add_entry", unit("ou=x,ou=q,ou=a"))
        self.refused(("NoTarget", {"attribute": "boss", "item": "cn=q"}), replica, "add_entry", unit("ou=x", boss=("cn=q",)))
        self.refused(given("BadName", 5), replica, "delete", 5)
        self.refused(given("HasChildren", A), replica, "delete", "ou=a")
        self.refused(given("BadName", "x"), replica, "modify", "x", None)
        self.refused(("BadChange", {"place": None}), replica, "modify", "ou=q", None)
        self.refused(("BadChange", {"place": 1}), replica, "modify", "ou=q", ((("add", "mail", ("x",))), ("add", "mail", ["x"])))
        self.refused(no_entry("ou=q"), replica, "modify", "ou=q", ())
        self.refused(("BadValue", {"attribute": "boss", "item": "x"}), replica, "modify", A, (("add", "boss", ("x",)),))
        self.refused(given("BadName", "x"), replica, "rename", BOB, "x", under="y")
        self.refused(given("Inside", B), replica, "rename", A, "ou=A", under="ou=b,ou=a")
        self.refused(given("NameTaken", Z), replica, "rename", B, "ou=z", under="")
        self.assertEqual(replica.vector, {"west": 6})

    def test_values_that_name_no_entry(self):
        replica = grown()
        replica.modify(BOB, (
            ("add", "boss", ("cn=q", CID, "no name")), ("delete", "boss", ("no name", "cn=q")), ("add", "peer", ("cn=q",)),
            ("delete", "peer", ("cn=q",)), ("add", "peer", ()), ("replace", "peer", ("cn=q", "ou=q")), ("replace", "peer", ())))
        self.assertEqual(deeds(replica)[-1], ("modify", MARKS[BOB], (
            ("add", "boss", (MARKS[CID],)), ("add", "peer", ()), ("replace", "peer", ()), ("replace", "peer", ()))))
        self.holds(replica.as_directory()[BOB], boss=(ANN, CID), peer=())
        # Where all values disappear from a change to delete, it does not become one that deletes all.
        replica.modify(BOB, (("add", "boss", ("cn=q",)), ("delete", "boss", ("cn=q",))))
        self.assertEqual(deeds(replica)[-1], ("modify", MARKS[BOB], ()))
        replica.modify(CID, (("delete", "boss", ()), ("add", "boss", (ANN,))))
        self.assertEqual(deeds(replica)[-1], ("modify", MARKS[CID], (("delete", "boss", ()), ("add", "boss", (MARKS[ANN],)))))
        self.holds(replica.as_directory()[BOB], boss=(ANN, CID))

    def test_values_of_other_attributes_stay_texts(self):
        replica = grown()
        replica.modify(A, (("add", "link", (ANN, "cn=q")), ("add", "none", (ANN,)), ("delete", "none", (ANN,)),
                           ("add", "team", (ANN,)), ("delete", "team", ())))
        self.assertEqual(deeds(replica)[-1][2], (("add", "link", (ANN, "cn=q")), ("add", "none", (ANN,)), ("delete", "none", (ANN,)),
                                                 ("add", "team", (ANN,)), ("delete", "team", ())))
        replica.rename(ANN, "cn=New")
        self.holds(replica.as_directory()[A], link=(ANN, "cn=q"))

    def test_stamps_and_numbers(self):
        west, east, mid = replicas("west", "east", "mid")
        self.assertEqual([west.add_entry(unit("ou=A")), west.add_entry(unit("ou=B"))], [(1, "west"), (2, "west")])
        self.assertEqual(east.add_entry(unit("ou=C")), (1, "east"))
        self.assertEqual(east.pull(west), 2)
        self.assertEqual([east.delete("ou=a"), east.delete("ou=B")], [(3, "east"), (4, "east")])
        self.assertEqual(west.modify("ou=A", ()), (3, "west"))
        self.assertEqual(mid.pull(east), 5)
        self.assertEqual(mid.delete("ou=c"), (5, "mid"))
        self.assertEqual(told(mid), [((1, "east"), 1), ((1, "west"), 1), ((2, "west"), 2), ((3, "east"), 2), ((4, "east"), 3),
                                     ((5, "mid"), 1)])
        self.assertEqual(west.pull(mid), 4)
        self.assertEqual(west.add_entry(unit("ou=D")), (6, "west"))
        self.assertEqual(told(west)[-1], ((6, "west"), 4))


class TestChange(ReplicaTest):

    def test_kinds_of_values(self):
        replica = grown()
        replica.modify(BOB, (("increment", "luck", 1),))
        for place, change in enumerate(replica.changes()):
            self.assertIsInstance(change, Change)
            self.assertEqual((change.stamp, change.number), ((place + 1, "west"), place + 1))
            for value in (change.stamp, change.deed):
                self.assertIs(type(value), tuple)

    def test_equality(self):
        one, other = grown().changes(), grown().changes()
        self.assertEqual(one, other)
        for place, change in enumerate(one):
            self.assertFalse(any(change == wrong for at, wrong in enumerate(other) if at != place))
            self.assertFalse(any(change == wrong for wrong in (None, change.stamp, change.deed, change.number, (change,))))
        west, east, young = replicas("west", "east", "west")
        for replica, entry in ((west, unit("ou=A")), (east, unit("ou=A")), (young, unit("ou=B"))):
            replica.add_entry(entry)
        changes = [replica.changes()[0] for replica in (west, east, young)]
        self.assertEqual([one == other for one in changes for other in changes],
                         [True, False, False, False, True, False, False, False, True])
        # The same stamp and the same deed, but another number.
        old, new = replicas("west", "east")
        east.modify("ou=A", ())
        old.pull(east)
        old.add_entry(unit("ou=B"))
        new.add_entry(unit("ou=x"))
        again = Replica("west", tree_schema())
        again.add_entry(unit("ou=C"))
        again.delete("ou=C")
        again.add_entry(unit("ou=B"))
        self.assertEqual(old.changes()[-1].stamp, again.changes()[-1].stamp)
        self.assertEqual(old.changes()[-1].deed, again.changes()[-1].deed)
        self.assertFalse(old.changes()[-1] == again.changes()[-1])


class TestVectors(ReplicaTest):

    def test_they_count_changes(self):
        west, east = replicas()
        self.assertEqual(west.vector, {})
        west.add_entry(unit("ou=A"))
        self.assertEqual(west.vector, {"west": 1})
        east.pull(west)
        east.add_entry(unit("ou=B"))
        east.add_entry(unit("ou=C"))
        self.assertEqual(east.vector, {"west": 1, "east": 2})
        west.take(east.changes({"east": 1})[:0])
        self.assertEqual(west.vector, {"west": 1})
        self.assertIs(type(west.vector), dict)

    def test_later_changes_of_one_have_no_effect(self):
        replica = grown()
        vector = replica.vector
        vector["west"] = 99
        vector["east"] = 1
        self.assertEqual(replica.vector, {"west": 6})

    def test_changes_that_another_one_lacks(self):
        west, east = replicas()
        for letter in "abc":
            west.add_entry(unit(f"ou={letter}"))
        east.pull(west)
        for letter in "de":
            east.add_entry(unit(f"ou={letter}"))
        west.add_entry(unit("ou=f"))
        west.pull(east)
        everything = [(1, "west"), (2, "west"), (3, "west"), (4, "east"), (4, "west"), (5, "east")]
        cases = (((), everything), ((None,), everything), (({},), everything), (({"west": 2},), everything[2:]),
                 (({"west": 3},), everything[3:]), (({"west": 4, "east": 1},), everything[5:]), (({"east": 2},), everything[:3] + [(4, "west")]),
                 (({"west": 4, "east": 2},), []), (({"west": 10 ** 999, "east": 9, "far": 3},), []), ((west.vector,), []))
        for arguments, stamps in cases:
            changes = west.changes(*arguments)
            self.assertIs(type(changes), tuple)
            self.assertEqual([change.stamp for change in changes], stamps)
        self.assertEqual(len(west.changes(vector={"west": 1})), 5)

    def test_no_vectors(self):
        for vector in NO_VECTORS:
            with self.subTest(vector):
                self.refused(given("BadVector", vector), grown(), "changes", vector)

    def test_arguments_are_not_changed(self):
        vector = {"west": 2, "east": 1}
        grown().changes(vector)
        grown().trim(({"west": 2},))
        self.assertEqual(vector, {"west": 2, "east": 1})


class TestTake(ReplicaTest):

    def test_those_that_it_lacks(self):
        west, east = grown(), Replica("east", tree_schema())
        changes = west.changes()
        self.assertEqual(east.take(changes[:2]), 2)
        self.assertEqual(names_of(east), (A, B))
        self.assertEqual(east.take(changes[:2]), 0)
        self.assertEqual(east.take(changes=changes[1:4]), 2)
        self.assertEqual(east.take(changes + changes), 2)
        self.assertEqual(east.take(()), 0)
        self.assertEqual(east.changes(), changes)
        self.assertEqual(east.as_directory(), tree())
        self.assertEqual(west.take(changes), 0)
        self.assertEqual(west.take(east.changes()), 0)

    def test_in_any_order(self):
        west, east = grown(), Replica("east", tree_schema())
        self.assertEqual(east.take(west.changes()[::-1]), 6)
        self.assertEqual(east.changes(), west.changes())
        self.assertEqual(east.as_directory(), tree())
        self.assertEqual(east.add_entry(unit("ou=x")), (7, "east"))

    def test_no_changes(self):
        change = grown().changes()[0]
        for changes in (None, True, 5, "", [change], [], {}, change):
            self.refused(("BadChange", {"place": None}), grown(), "take", changes)
        for wrong in (None, True, "x", (change,), [change], change.deed, change.stamp):
            replica = Replica("east", tree_schema())
            self.refused(("BadChange", {"place": 0}), replica, "take", (wrong, wrong))
            self.refused(("BadChange", {"place": 2}), replica, "take", grown().changes()[4:6] + (wrong,))

    def test_gaps(self):
        west, east, mid = grown(), Replica("east", tree_schema()), Replica("mid", tree_schema())
        changes = west.changes()
        for wrong in (changes[1:], changes[:2] + changes[3:], changes[5:], (changes[0], changes[2], changes[2])):
            self.refused(("Gap", {"host": "west"}), mid, "take", wrong)
        mid.take(changes[:3])
        self.refused(("Gap", {"host": "west"}), mid, "take", changes[:1] + changes[4:])
        for letter in "abc":
            east.add_entry(unit(f"ou={letter}"))
        self.refused(("Gap", {"host": "east"}), mid, "take", changes[4:] + east.changes()[1:])
        self.refused(("Gap", {"host": "west"}), mid, "take", changes[4:] + east.changes())
        self.refused(("Gap", {"host": "east"}), mid, "take", changes + east.changes()[:1] + east.changes()[2:])
        self.assertEqual(mid.take(changes[:4] + east.changes()[:1]), 2)
        self.assertEqual(mid.vector, {"west": 4, "east": 1})
        # The first replica is told, not that of the first stamp.
        self.refused(("Gap", {"host": "east"}), Replica("far", tree_schema()), "take", changes[1:2] + east.changes()[2:])

    def test_own_changes_are_known(self):
        west, east = replicas()
        west.add_entry(unit("ou=A"))
        east.pull(west)
        east.add_entry(unit("ou=B"))
        self.assertEqual(west.take(east.changes()), 1)

    def test_changes_of_several_replicas(self):
        west, east, mid = replicas("west", "east", "mid")
        west.add_entry(unit("ou=A"))
        east.add_entry(unit("ou=B"))
        west.pull(east)
        self.assertEqual(mid.take(west.changes()), 2)
        self.assertEqual(mid.vector, {"east": 1, "west": 1})


class TestPull(ReplicaTest):

    def test_all_that_it_lacks(self):
        west, east = grown(), Replica("east", tree_schema())
        self.assertEqual(east.pull(west), 6)
        self.assertEqual(east.pull(other=west), 0)
        west.delete(Z)
        east.add_entry(unit("ou=New"))
        self.assertEqual((east.pull(west), west.pull(east), west.pull(east)), (1, 1, 0))
        self.agree(west, east)

    def test_of_itself_nothing(self):
        replica = grown()
        before = facts_of(replica)
        self.assertEqual(replica.pull(replica), 0)
        self.assertEqual(facts_of(replica), before)
        self.assertEqual(Replica("west", tree_schema()).pull(Replica("east", tree_schema())), 0)

    def test_the_other_one_is_not_changed(self):
        west, east = grown(), Replica("east", tree_schema())
        east.add_entry(unit("ou=New"))
        before = facts_of(west)
        east.pull(west)
        self.assertEqual(facts_of(west), before)


class TestMarks(ReplicaTest):

    def test_mark_of(self):
        replica = grown()
        for name, mark in MARKS.items():
            for one in (name, name.lower(), Name(name)):
                self.assertEqual(replica.mark_of(one), mark)
        replica.rename("ou=A", "ou=New")
        self.assertEqual(replica.mark_of(name="cn=cid,ou=B,ou=new"), MARKS[CID])
        for name in (None, True, 5, "x", "ou=", ("ou=A",), [], {}, (1, "west")):
            self.refused(given("BadName", name), replica, "mark_of", name)
        self.refused(no_entry("", ""), replica, "mark_of", "")
        self.refused(no_entry("cn=x,cn=ANN,ou=new", "cn=Ann,ou=New"), replica, "mark_of", "cn=x,cn=ANN,ou=new")
        self.refused(no_entry(CID, ""), replica, "mark_of", Name(CID))

    def test_name_of(self):
        replica = grown()
        for name, mark in MARKS.items():
            self.assertEqual(replica.name_of(mark), name)
        replica.rename("ou=A", "ou=New")
        self.assertEqual(replica.name_of(mark=(5, "west")), "cn=Cid,ou=B,ou=New")
        replica.delete("cn=Cid,ou=B,ou=New")
        wrong = (None, True, 1, "west", (), (1,), (1, "west", 1), (1, "east"), (7, "west"), (8, "west"), (5, "west"), (0, "west"),
                 (-1, "west"), [1, "west"], (True, "west"), (1.0, "west"), ("1", "west"), ("west", 1), (1, ["west"]), ([1], "west"),
                 (1, None), {}, {1: "west"}, ({}, {}), ((1, "west"), (1, "west")), b"", (1, b"west"), MARKS)
        for mark in wrong:
            with self.subTest(mark):
                self.assertIsNone(replica.name_of(mark))

    def test_the_mark_stays_when_names_change(self):
        west, east = grown(), Replica("east", tree_schema())
        east.pull(west)
        east.rename(BOB, "cn=Rob", under="ou=z")
        west.pull(east)
        self.assertEqual(west.name_of(MARKS[BOB]), "cn=Rob,ou=Z")
        self.assertEqual(west.mark_of("cn=rob,ou=Z"), MARKS[BOB])
        west.delete("cn=Rob,ou=Z")
        stamp = west.add_entry(person("cn=Rob,ou=Z"))
        self.assertEqual(west.mark_of("cn=rob,ou=Z"), stamp)


class TestFull(ReplicaTest):

    def full(self):
        """Two replicas that have 300 entries, and one more together."""
        west, east = replicas()
        for place, word in enumerate(words_of(300)):
            (west, east)[place % 2].add_entry(top(f"ou={word}"))
        exchange(west, east)
        return west, east

    def test_at_most_three_hundred_entries(self):
        west, east = self.full()
        self.assertEqual(len(west.as_directory()), 300)
        self.refused(("Full", {"limit": 300}), west, "add_entry", top("ou=A"))
        self.refused(given("NameTaken", "ou=xab"), west, "add_entry", top("ou=XAB"))
        gone = west.delete("ou=xaa")
        stamp = west.add_entry(top("ou=A"))
        mark = east.mark_of("ou=xab")
        east.delete("ou=xaa")
        other = east.add_entry(top("ou=B"))
        self.assertEqual((west.pull(east), west.conflicts), (2, ((gone, "entry"),)))
        full = ("Full", {"limit": 300})
        self.assertEqual(west.name_of(mark), "ou=xab")
        self.assertEqual((west.name_of(stamp), west.name_of(other)), ("ou=A", "ou=B"))
        for word, arguments in (("as_directory", ()), ("add_entry", (None,)), ("delete", (None,)), ("modify", (None, None)),
                                ("rename", (None, None)), ("delete", ("ou=xab",)), ("mark_of", ("ou=xab",))):
            self.assertEqual(outcome(getattr(west, word), *arguments), full)
        self.assertEqual(outcome(west.mark_of, None), given("BadName", None))
        self.assertEqual((len(west.changes()), west.vector), (304, {"east": 152, "west": 152}))
        # Another replica may still make room.
        mid = Replica("mid", tree_schema())
        self.assertEqual(mid.take(west.changes()), 304)
        self.assertEqual(outcome(mid.delete, "ou=xab"), full)
        east.delete("ou=xab")
        west.pull(east)
        self.assertEqual(len(west.as_directory()), 300)
        self.assertEqual(west.mark_of("ou=b"), other)


class TestSchemas(ReplicaTest):

    def test_a_small_schema(self):
        replica = Replica("west", Schema((), ()))
        replica.add_entry(Entry("ref=west", kind=("referral",), ref=("west",)))
        self.assertEqual(names_of(replica), ("ref=west",))


if __name__ == "__main__":
    unittest.main()
