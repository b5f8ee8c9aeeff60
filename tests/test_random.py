"""Facts that hold after any deeds: [9], [13] to [17], for deeds at random."""

import random
import unittest

from dirservice.directories import Directory
from dirservice.entries import Entry
from dirservice.errors import Conflict, Excess, Invalid
from dirservice.names import Name
from tests.trees import facts_of, person, referral, tree, unit

LEAVES = ("ou=A", "ou=a", "ou=B", "ou=New", "cn=Ann", "cn=BOB", "cn=Dan", "cn=Dan+luck=5", "kind=unit+ou=A", "ou=B+mail=m")
WORDS = ("kind", "cn", "ou", "mail", "luck", "boss", "peer", "age", "ref", "link", "none")


class Deeds:
    """Deeds at random for a directory."""

    def __init__(self, seed):
        self.chance = random.Random(seed)

    def name(self, directory):
        names = [entry.name.text for entry in directory.walk()] + ["", "ou=nowhere"]
        name = self.chance.choice(names)
        return name.replace("A", "a") if self.chance.random() < 0.3 else name

    def values(self, directory, word):
        if word in ("boss", "peer", "link"):
            return tuple(self.name(directory) or "ou=A" for _ in range(self.chance.randint(0, 3)))
        pools = {"kind": ("unit", "person", "deputy", "chief", "tag", "referral"), "luck": ("1", "2", "-3"),
                 "ref": ("west", "east/ou=q")}
        pool = pools.get(word, ("Ann", "Bob", "Dan", "m", "M"))
        return tuple(self.chance.choice(pool) for _ in range(self.chance.randint(0, 2)))

    def entry(self, directory):
        above = self.name(directory)
        leaf = self.chance.choice(LEAVES)
        name = f"{leaf},{above}" if above else leaf
        made = {word: (value,) for word, value in Name(name).pairs} if Name(name).depth else {}
        kind = made.get("kind") or (self.chance.choice(("unit", "person", "deputy", "chief")),)
        if self.chance.random() < 0.1:
            return referral("ou=R", "west").renamed(name).with_values(**made)
        entry = Entry.of(name, {**made, "kind": kind})
        return entry.with_values(boss=self.values(directory, "boss")) if self.chance.random() < 0.6 else entry

    def changes(self, directory):
        changes = []
        for _ in range(self.chance.randint(0, 3)):
            sign, word = self.chance.choice(("add", "delete", "replace", "increment")), self.chance.choice(WORDS)
            changes.append((sign, word, self.chance.randint(-3, 3) if sign == "increment" else self.values(directory, word)))
        return tuple(changes)

    def deed(self, directory):
        sign = self.chance.choice(("add", "add", "add", "delete", "modify", "modify", "rename", "rename"))
        if sign == "add":
            return (sign, self.entry(directory))
        if sign == "delete":
            return (sign, self.name(directory))
        if sign == "modify":
            return (sign, self.name(directory), self.changes(directory))
        under = self.chance.choice((None, None, self.name(directory)))
        return (sign, self.name(directory), self.chance.choice(LEAVES), under, self.chance.random() < 0.3)

    def unit(self, directory):
        return tuple(self.deed(directory) for _ in range(self.chance.choice((1, 1, 1, 2, 3))))


class TestDeedsAtRandom(unittest.TestCase):

    def test_facts_after_each_unit(self):
        done = {True: 0, False: 0}
        for seed in range(12):
            deeds = Deeds(seed)
            directory = tree(person("cn=Dan,ou=A", peer=("ou=z",)), unit("ou=C,ou=Z"))
            for _ in range(60):
                done[self.check_unit(directory, deeds.unit(directory), deeds.chance.random() < 0.5)] += 1
        self.assertGreater(min(done.values()), 150)

    def check_unit(self, directory, deeds, manage):
        """Does a unit, looks at the facts, and tells whether it was done."""
        before, entries = facts_of(directory), self.by_name(directory)
        undoable = directory.undoable
        try:
            told = directory.apply(deeds, manage=manage)
        except (Invalid, Conflict, Excess):
            self.assertEqual(facts_of(directory), before)
            return False
        after = self.by_name(directory)
        changed = [name for name in {**entries, **after} if entries.get(name) != after.get(name)]
        texts = [(after.get(name) or entries[name]).name for name in changed]
        self.assertEqual(sorted(told), sorted(name.text for name in texts))
        for one, other in zip(told, told[1:]):
            self.assertTrue(Name(one).comes_before(Name(other)))
        self.check_facts(directory)
        self.assertEqual(directory.undoable, min(undoable + 1, 20))
        self.check_undo(directory, before[0], deeds, manage)
        return True

    def by_name(self, directory):
        return {entry.name.normal: entry for entry in directory.walk()}

    def check_undo(self, directory, before, deeds, manage):
        """Undoing and doing the same again leads to the same entries."""
        after = facts_of(directory)[0]

        def once_more(same):
            same.undo()
            first = facts_of(same)[0]
            same.apply(deeds, manage=manage)
            return first, facts_of(same)[0]

        self.assertEqual(directory.attempt(once_more), (before, after))

    def check_facts(self, directory):
        """All entries follow all rules, and names and tracked values have the texts that they must have."""
        texts = [entry.name.text for entry in directory.walk()]
        self.assertEqual(len(texts), len(directory))
        for one, other in zip(texts, texts[1:]):
            self.assertTrue(Name(one).comes_before(Name(other)))
        for entry in directory.walk():
            above = entry.name.parent
            directory.schema.check(entry, directory[above] if above.depth else None)
            self.assertIn(above.text, texts + [""])
            if "referral" in entry["kind"]:
                self.assertEqual(directory.children(entry.name), ())
            for word in ("boss", "peer"):
                for value in entry[word]:
                    self.assertIn(value, texts)
        for entry in map(directory.__getitem__, texts):
            for mirror, word in (("team", "boss"), ("crew", "boss"), ("mates", "peer")):
                expected = tuple(one.name.text for one in directory.walk() if entry.name.text in one[word])
                self.assertEqual(entry[mirror], expected)
        self.assertEqual(Directory(directory.schema, tuple(directory.walk())), directory)


if __name__ == "__main__":
    unittest.main()
