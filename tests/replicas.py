"""What the tests of replicas need."""

from dirservice.entries import Entry
from dirservice.replicas import Replica
from tests.samples import outcome
from tests.trees import TreeTest, tree_schema, unit, values_of

HOSTS = ("east", "mid", "west")


def replicas(*words):
    """Replicas with these words and the same schema."""
    return tuple(Replica(word, tree_schema()) for word in words or ("west", "east"))


def exchange(*all_of_them):
    """Has all replicas take all changes."""
    for _ in range(2):
        for one in all_of_them:
            for other in all_of_them:
                one.pull(other)


def top(name, **values):
    """An entry of the class unit with the values of its relative name, and others."""
    entry = unit(name)
    pairs = {word: (value,) for word, value in entry.name.pairs}
    return Entry.of(name, {"kind": ("unit",), **pairs}).with_values(**values)


def names_of(replica):
    """The texts of the names of all entries."""
    return tuple(entry.name.text for entry in replica.as_directory().walk())


def facts_of(replica):
    """All that can be seen of a replica."""
    entries = [(entry.name.text, values_of(entry)) for entry in replica.as_directory().walk()]
    vector = replica.vector
    known = {word: vector[word] - len([one for one in all_changes(replica) if one.stamp[1] == word]) for word in vector}
    return entries, replica.conflicts, vector, [(one.stamp, one.number, one.deed) for one in all_changes(replica)], known


def all_changes(replica):
    """The changes that were not forgotten."""
    forgotten = {}
    while True:
        told = outcome(replica.changes, forgotten)
        if told[:1] != ("Forgotten",):
            return told
        # The next number of the replica that was told may be known.
        host = told[1]["host"]
        forgotten[host] = forgotten.get(host, 0) + 1


class ReplicaTest(TreeTest):
    """What the tests of replicas have in common."""

    def refused(self, expected, replica, word, *arguments, **options):
        """A method of a replica raises an error, given as (name, attributes), and changes nothing."""
        before = facts_of(replica)
        self.assertEqual(outcome(getattr(replica, word), *arguments, **options), expected)
        self.assertEqual(facts_of(replica), before)

    def agree(self, *all_of_them):
        """Replicas have the same entries and conflicts after they exchanged all changes."""
        exchange(*all_of_them)
        for one in all_of_them[1:]:
            self.assertEqual(one.as_directory(), all_of_them[0].as_directory())
            self.assertEqual(one.conflicts, all_of_them[0].conflicts)
            self.assertEqual(one.vector, all_of_them[0].vector)
