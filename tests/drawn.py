"""Deeds and filters that are drawn at random."""

import random

from dirservice.entries import Entry
from dirservice.errors import Conflict, Excess, Invalid
from dirservice.filters import All, AtLeast, AtMost, Equal, Not, Pieces, Present, Some
from dirservice.names import Name

LEAVES = ("ou=A", "ou=a", "ou=B", "ou=C", "cn=X", "cn=x", "cn=Y+code=1", "ou=A+dup=1-west", "cn=Z+luck=5", "cn=a+code=1+luck=2+ou=u",
          "kind=unit+ou=A", "ou=D")
WORDS = ("kind", "cn", "ou", "mail", "luck", "boss", "peer", "age", "ref", "link", "none", "dup", "code", "team")
POOLS = {"kind": ("unit", "person", "deputy", "chief", "tag", "referral"), "luck": ("1", "2", "-3", "9" * 30), "age": ("3", "9" * 30),
         "ref": ("west", "east/ou=q"), "dup": ("1-west", "q")}


class Drawn:
    """What is drawn from one seed."""

    def __init__(self, seed):
        self.chance = random.Random(seed)

    def name(self, directory):
        names = [entry.name.text for entry in directory.walk()] + ["ou=nowhere", ""]
        name = self.chance.choice(names)
        return name.replace("A", "a") if self.chance.random() < 0.3 else name

    def values(self, directory, word):
        if word in ("boss", "peer", "link", "team"):
            return tuple(self.name(directory) or "ou=A" for _ in range(self.chance.randint(0, 3)))
        pool = POOLS.get(word, ("X", "Y", "A", "m", "M"))
        return tuple(self.chance.choice(pool) for _ in range(self.chance.randint(0, 2)))

    def entry(self, directory):
        leaf, above = self.chance.choice(LEAVES), self.name(directory)
        name = Name(f"{leaf},{above}" if above else leaf)
        values = {word: (value,) for word, value in name.pairs}
        kind = self.chance.choice(("person", "person", "deputy", "chief") if "cn" in values else ("unit", "unit", "unit", "referral"))
        entry = Entry.of(name, {"kind": (kind,), **values})
        if kind == "referral":
            entry = entry.with_values(ref=("west",))
        if self.chance.random() < 0.6:
            entry = entry.with_values(boss=self.values(directory, "boss") + ((name.text,) if self.chance.random() < 0.2 else ()))
        return entry.with_values(luck=("5",)) if self.chance.random() < 0.3 else entry

    def changes(self, directory):
        changes = []
        for _ in range(self.chance.randint(0, 4)):
            sign, word = self.chance.choice(("add", "delete", "replace", "increment")), self.chance.choice(WORDS)
            changes.append((sign, word, self.chance.randint(-3, 3) if sign == "increment" else self.values(directory, word)))
        return tuple(changes)

    def deed(self, directory):
        sign = self.chance.choice(("add", "add", "add", "delete") + ("modify",) * 3 + ("rename",) * 3)
        if sign == "add":
            return sign, self.entry(directory)
        if sign == "delete":
            return sign, self.name(directory)
        if sign == "modify":
            return sign, self.name(directory), self.changes(directory)
        under = self.name(directory) if self.chance.random() < 0.6 else None
        return sign, self.name(directory), self.chance.choice(LEAVES), under, self.chance.random() < 0.4

    def possible_deed(self, directory):
        """A deed that the directory, which is not changed, can do with manage True; None if none was drawn."""
        for _ in range(25):
            try:
                deed = self.deed(directory)
                directory.attempt(lambda same: same.apply((deed,), manage=True))
            except (Invalid, Conflict, Excess):
                continue
            return deed
        return None

    def filter(self, directory, levels):
        kind = self.chance.randint(0, 8 if levels > 1 else 5)
        if kind < 6:
            return self.comparison(directory, kind)
        if kind == 6:
            return Not(self.filter(directory, levels - 1))
        parts = [self.filter(directory, levels - 1) for _ in range(self.chance.randint(0, 3))]
        return All(*parts) if kind == 7 else Some(*parts)

    def comparison(self, directory, kind):
        word = self.chance.choice(WORDS)
        value = self.chance.choice(self.values(directory, word) or ("X",))
        if kind > 3:
            return Pieces(word, self.chance.choice(("", value[:3], value)), value[1:4] or "x", self.chance.choice(("", value[-3:])))
        return (Present(word), Equal(word, value), AtLeast(word, value), AtMost(word, value))[kind]


def do_at(replica, deed):
    """Does a deed of apply at a replica; the stamp."""
    if deed[0] == "add":
        return replica.add_entry(deed[1])
    if deed[0] == "delete":
        return replica.delete(deed[1])
    if deed[0] == "modify":
        return replica.modify(deed[1], deed[2])
    return replica.rename(deed[1], deed[2], under=deed[3], keep=deed[4])
