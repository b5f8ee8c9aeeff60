"""Point [29]: vectors, and changes that are forgotten."""

import unittest

from dirservice.replicas import Replica
from tests.replicas import ReplicaTest, all_changes, exchange, facts_of, names_of, replicas
from tests.samples import outcome
from tests.test_replicas import NO_VECTORS, grown
from tests.trees import NAMES, given, tree_schema, unit


def stamps(replica):
    """The stamps of the changes that were not forgotten."""
    return [change.stamp for change in all_changes(replica)]


def add(replica, *letters):
    for letter in letters:
        replica.add_entry(unit(f"ou={letter}"))


class TrimTest(ReplicaTest):

    def trim(self, replica, vectors, count):
        """Forgets a number of changes, the first ones, and nothing else changes."""
        entries, conflicts, vector, changes, _ = facts_of(replica)
        names = {replica.mark_of(name): name for name in names_of(replica)}
        self.assertEqual(replica.trim(vectors), count)
        self.assertEqual({mark: replica.name_of(mark) for mark in names}, names)
        after = facts_of(replica)
        self.assertEqual(after[:3], (entries, conflicts, vector))
        self.assertEqual(after[3], changes[count:])


class TestHowManyAreForgotten(TrimTest):

    def pair(self):
        """Two replicas with the stamps 1 to 3 of west, 4 of both, 5 of east and 5 of west."""
        west, east = replicas()
        add(west, "a", "b", "c")
        east.pull(west)
        add(east, "d", "e")
        add(west, "f", "g")
        west.pull(east)
        self.assertEqual(stamps(west), [(1, "west"), (2, "west"), (3, "west"), (4, "east"), (4, "west"), (5, "east"), (5, "west")])
        return west, east

    def test_with_its_own_vector_alone(self):
        self.trim(self.pair()[0], (), 7)
        self.trim(Replica("west", tree_schema()), (), 0)
        west, _ = self.pair()
        self.trim(west, (west.vector,), 7)
        self.trim(west, (west.vector,), 0)

    def test_changes_that_a_vector_does_not_count(self):
        # m is the greatest time that the vector counts: 2, 3, 4, 5; the first change that is not counted ends it.
        for vector, count in (({"west": 2}, 2), ({"west": 3}, 3), ({"west": 4}, 3), ({"west": 5}, 3), ({"east": 1}, 0),
                              ({"east": 2}, 0), ({"east": 1, "west": 3}, 4), ({"east": 1, "west": 4}, 5), ({"east": 2, "west": 3}, 4),
                              ({"east": 2, "west": 4}, 6), ({"east": 1, "west": 5}, 5), ({"east": 2, "west": 5}, 7), ({}, 0)):
            with self.subTest(vector):
                west, _ = self.pair()
                self.trim(west, (vector,), count)

    def test_several_vectors(self):
        for vectors, count in (([{"west": 5, "east": 2}, {"west": 2}], 2), ([{"west": 3}, {"west": 1}, {"west": 2}], 1),
                               ([{"west": 3}, {}], 0), ([{"west": 3}, {"east": 2, "west": 3}], 3),
                               ([{"west": 4, "east": 1}, {"west": 3, "east": 2}], 4)):
            for row in (vectors, vectors[::-1]):
                west, _ = self.pair()
                self.trim(west, tuple(row), count)
        self.assertEqual(self.pair()[0].trim(vectors=({"west": 1},)), 1)

    def test_the_least_of_the_greatest_times(self):
        # West has changes with greater times than east knows, but the vector counts all of those with lesser times.
        west, east = replicas()
        add(west, "a")
        east.pull(west)
        add(west, "b", "c", "d")
        self.trim(west, (east.vector,), 1)
        # A change of the same time as the greatest one may still be forgotten.
        west, east = replicas()
        add(east, "a")
        add(west, "b")
        exchange(west, east)
        self.trim(west, (east.vector,), 2)

    def test_changes_of_three_replicas(self):
        west, east, mid = replicas("west", "east", "mid")
        add(mid, "m")
        add(east, "a", "b")
        west.pull(mid)
        west.pull(east)
        self.trim(west, ({"mid": 1, "east": 1},), 2)
        west, east, mid = replicas("west", "east", "mid")
        add(mid, "m")
        add(west, "x", "y")
        west.pull(mid)
        self.assertEqual(stamps(west), [(1, "mid"), (1, "west"), (2, "west")])
        self.trim(west, ({"mid": 1},), 1)

    def test_forgotten_changes_have_times_too(self):
        west, _ = self.pair()
        self.trim(west, ({"west": 3},), 3)
        # The vector counts forgotten changes only.
        self.trim(west, ({"west": 1},), 0)
        self.trim(west, ({"west": 3},), 0)
        self.trim(west, ({"west": 3, "east": 1},), 1)
        self.trim(west, ({"west": 4, "east": 1},), 1)
        self.trim(west, ({"west": 5, "east": 1},), 0)
        self.trim(west, ({"west": 5, "east": 2},), 2)
        self.assertEqual(west.trim(()), 0)


class TestErrors(TrimTest):

    def test_no_vectors(self):
        for vectors in (None, True, 5, "", [], [{"west": 1}], {}, {"west": 1}):
            self.refused(given("BadVector", vectors), grown(), "trim", vectors)
        for vector in NO_VECTORS + (None,):
            with self.subTest(vector):
                self.refused(given("BadVector", vector), grown(), "trim", (vector, None, {"east": 9}))
                self.refused(given("BadVector", vector), grown(), "trim", ({"west": 1}, {"east": 9}, vector, 5))

    def test_behind(self):
        for vectors, host in ((({"west": 7},), "west"), (({"east": 1},), "east"), (({"west": 6}, {"west": 6, "mid": 1}, {"east": 1}), "east"),
                              (({"west": 7, "mid": 1},), "mid"), (({"west": 10 ** 999},), "west")):
            self.refused(("Behind", {"host": host}), grown(), "trim", vectors)
        replica = grown()
        replica.trim(({"west": 4},))
        self.refused(("Behind", {"host": "west"}), replica, "trim", ({"west": 7},))
        self.trim(replica, ({"west": 6},), 2)

    def test_forgotten(self):
        west, east, mid = replicas("west", "east", "mid")
        add(west, "a", "b")
        add(east, "c", "d")
        exchange(west, east)
        self.trim(west, ({"east": 1, "west": 1},), 2)
        for vector, host in ((None, "east"), ({}, "east"), ({"west": 2}, "east"), ({"east": 1}, "west"), ({"east": 2}, "west")):
            self.refused(("Forgotten", {"host": host}), west, "changes", vector)
        self.assertEqual([change.stamp for change in west.changes({"east": 1, "west": 1})], [(2, "east"), (2, "west")])
        self.assertEqual([change.stamp for change in west.changes({"east": 2, "west": 1})], [(2, "west")])
        self.refused(("Forgotten", {"host": "east"}), mid, "pull", west)
        mid.take(east.changes({"west": 2})[:1])
        self.refused(("Forgotten", {"host": "west"}), mid, "pull", west)
        self.assertEqual(west.pull(west), 0)
        self.assertEqual(mid.pull(east), 3)
        self.assertEqual(mid.as_directory(), west.as_directory())


    def test_forgotten_changes_of_several_replicas(self):
        # The first replica is told, not the one whose changes were forgotten first.
        west, east = replicas()
        add(west, "a", "b")
        east.pull(west)
        add(east, "c")
        west.pull(east)
        self.trim(west, (), 3)
        for vector, host in (({}, "east"), ({"west": 2}, "east"), ({"east": 1}, "west"), ({"east": 1, "west": 1}, "west")):
            self.refused(("Forgotten", {"host": host}), west, "changes", vector)


class TestWhatComesLater(TrimTest):

    def test_changes_that_come_between_others(self):
        # West has many changes behind the forgotten ones, and those of east come between them.
        for known, trimmed in ((20, 20), (36, 20), (36, 3), (39, 33), (24, 1)):
            west, east, whole = replicas("west", "east", "west")
            west.add_entry(unit("ou=w", luck=("0",)))
            for number in range(39):
                if number + 1 == known:
                    east.pull(west)
                if number % 2:
                    west.add_entry(unit(f"ou=w{number}"))
                elif number in (26, 30):
                    # Another entry gets the name that one had among the first changes.
                    west.rename(*{26: ("ou=w1", "ou=y"), 30: ("ou=w3", "ou=w1")}[number])
                else:
                    west.modify("ou=w", (("increment", "luck", 1),))
            whole.take(west.changes())
            self.trim(west, ({"west": trimmed},), trimmed)
            self.assertEqual(west.modify("ou=w", (("increment", "luck", 10),)), whole.modify("ou=w", (("increment", "luck", 10),)))
            self.holds(west.as_directory()["ou=w"], luck=("28",))
            east.modify("ou=w", (("replace", "luck", ("100",)),))
            for number in range(20):
                east.add_entry(unit(f"ou=e{number}"))
            east.rename("ou=w", "ou=New")
            self.assertEqual((west.pull(east), whole.pull(east)), (22, 22))
            self.assertEqual(west.as_directory(), whole.as_directory())
            self.assertEqual((west.conflicts, west.vector), (whole.conflicts, whole.vector))
            self.assertEqual(len(west.as_directory()), 40)

    def test_replicas_go_on(self):
        west, east = replicas()
        add(west, "a", "b")
        add(east, "a")
        exchange(west, east)
        self.assertEqual(west.conflicts, (((1, "west"), "dup"),))
        self.trim(west, (east.vector,), 3)
        east.rename("ou=a", "ou=x")
        west.rename("ou=a", "ou=y")
        west.delete("ou=b")
        self.assertEqual((west.pull(east), east.pull(west)), (1, 2))
        self.assertEqual(west.as_directory(), east.as_directory())
        self.assertEqual(west.conflicts, east.conflicts)
        self.assertEqual(names_of(west), ("ou=a+dup=1-west", "ou=y"))
        self.assertEqual(west.conflicts, (((1, "west"), "dup"),))

    def test_times_go_on_behind_forgotten_changes(self):
        replica = grown()
        self.trim(replica, (), 6)
        self.assertEqual(outcome(replica.changes, {"west": 6}), ())
        self.assertEqual(replica.delete("ou=Z"), (7, "west"))
        change, = replica.changes({"west": 6})
        self.assertEqual((change.number, change.deed), (7, ("delete", (6, "west"))))
        self.assertEqual(names_of(replica), NAMES[:-1])
        self.assertEqual((replica.vector, replica.name_of((1, "west")), replica.mark_of("ou=a")), ({"west": 7}, "ou=A", (1, "west")))

    def test_forgotten_changes_are_not_taken_again(self):
        west, east = grown(), Replica("east", tree_schema())
        changes = west.changes()
        east.pull(west)
        self.trim(east, (west.vector,), 6)
        self.assertEqual((east.take(changes), east.pull(west)), (0, 0))
        west.delete("ou=Z")
        self.assertEqual(east.take(west.changes()), 1)
        self.assertEqual(east.as_directory(), west.as_directory())

    def test_gaps_behind_forgotten_changes(self):
        west, east = grown(), Replica("east", tree_schema())
        east.pull(west)
        east.trim(())
        add(west, "x", "y")
        self.refused(("Gap", {"host": "west"}), east, "take", west.changes()[-1:])
        self.assertEqual(east.take(west.changes()), 2)

    def test_conflicts_of_forgotten_changes_stay(self):
        west, east, mid = replicas("west", "east", "mid")
        for replica in (west, east, mid):
            add(replica, "a", "a" + replica.word[0])
        exchange(west, east, mid)
        conflicts = (((1, "mid"), "dup"), ((1, "west"), "dup"))
        self.trim(west, ({"east": 1, "mid": 1, "west": 1},), 3)
        self.assertEqual(west.conflicts, conflicts)
        self.trim(west, (east.vector, mid.vector), 3)
        self.assertEqual(west.conflicts, conflicts)
        # New conflicts come behind them.
        east.delete("ou=aw")
        west.delete("ou=aw")
        self.assertEqual((west.pull(east), east.pull(west)), (1, 1))
        self.assertEqual(west.conflicts, conflicts + (((3, "west"), "entry"),))
        self.assertEqual(east.conflicts, west.conflicts)


if __name__ == "__main__":
    unittest.main()
