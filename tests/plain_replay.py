"""Replaying once more, word by word as point [28] tells it, and checked by making a whole directory each time."""

from dirservice.directories import Directory
from dirservice.entries import Entry
from dirservice.errors import Conflict, Invalid
from dirservice.names import Name
from dirservice.values import are_equal, is_valid


class Skipped(Exception):
    """A change is skipped, for the reason given."""


class PlainReplay:
    """Entries by their marks: the mark above, the text of the relative name, and values, marks for tracked ones."""

    def __init__(self, schema, changes):
        self.schema = schema
        self.syntaxes = {"kind": "exact", "ref": "exact", "dup": "exact"}
        self.syntaxes |= {one.word: one.syntax for one in schema.attributes}
        self.tracked = [one.word for one in schema.attributes if one.tracked]
        self.entries = {}
        self.conflicts = ()
        self.directory = Directory(schema)
        for change in sorted(changes, key=lambda one: one.stamp):
            self.replay(change)

    def replay(self, change):
        self.reason = None
        before = self.entries
        self.entries = {mark: (above, leaf, dict(values)) for mark, (above, leaf, values) in before.items()}
        try:
            sign, *arguments = change.deed
            getattr(self, sign)(change.stamp, *arguments)
            self.directory = self.built()
        except Skipped as skipped:
            self.reason = str(skipped)
            self.entries = before
        if self.reason:
            self.conflicts += ((change.stamp, self.reason),)

    def built(self):
        names = sorted(((self.name(mark).path, mark) for mark in self.entries))
        try:
            return Directory(self.schema, tuple(self.entry(mark) for _, mark in names))
        except (Invalid, Conflict):
            raise Skipped("rule")

    def entry(self, mark):
        values = self.entries[mark][2]
        shown = {word: tuple(self.name(one).text for one in values[word]) for word in values if word in self.tracked}
        return Entry.of(self.name(mark), {**values, **shown})

    def name(self, mark):
        above, leaf, _ = self.entries[mark]
        return Name(leaf) if above is None else Name(f"{leaf},{self.name(above).text}")

    def depth(self, mark):
        return 0 if mark is None else 1 + self.depth(self.entries[mark][0])

    def height(self, mark):
        return 1 + max([self.height(one) for one in self.entries if self.entries[one][0] == mark], default=0)

    def is_below(self, mark, other):
        """Whether a mark is another one or below it."""
        return mark is not None and (mark == other or self.is_below(self.entries[mark][0], other))

    def demand(self, holds, reason):
        if not holds:
            raise Skipped(reason)

    def same(self, word, one, other):
        if word in self.tracked or word not in self.syntaxes:
            return one == other
        return are_equal(self.syntaxes[word], one, other)

    def there(self, word, values):
        return tuple(value for value in values if word not in self.tracked or value in self.entries)

    def leaf_for(self, stamp, mark, above, leaf):
        taken = {Name(one[1]).normal for other, one in self.entries.items() if other != mark and one[0] == above}
        if Name(leaf).normal in taken:
            self.reason = "dup"
            words = [word for word, _ in Name(leaf).pairs]
            self.demand(len(words) < 4 and "dup" not in words, "name")
            leaf = f"{leaf}+dup={stamp[0]}-{stamp[1]}"
            self.demand(Name(leaf).normal not in taken, "name")
        return leaf

    def add(self, stamp, above, leaf, attributes):
        self.demand(self.is_open(above), "parent")
        self.demand(self.depth(above) < 12, "deep")
        leaf = self.leaf_for(stamp, stamp, above, leaf)
        self.entries[stamp] = (above, leaf, {})
        values = {word: self.there(word, values) for word, values in attributes}
        self.entries[stamp] = (above, leaf, self.with_dup(stamp, values))

    def is_open(self, mark):
        return mark is None or (mark in self.entries and "referral" not in self.entries[mark][2].get("kind", ()))

    def with_dup(self, stamp, values):
        return {**values, "dup": (f"{stamp[0]}-{stamp[1]}",)} if self.reason == "dup" else values

    def delete(self, _, mark):
        self.demand(mark in self.entries, "entry")
        self.demand(self.height(mark) == 1, "children")
        del self.entries[mark]
        for _, _, values in self.entries.values():
            for word in self.tracked:
                if word in values:
                    values[word] = tuple(value for value in values[word] if value != mark)

    def modify(self, _, mark, changes):
        self.demand(mark in self.entries, "entry")
        values = self.entries[mark][2]
        for sign, word, given in changes:
            values[word] = self.changed(sign, word, values.get(word, ()), given)

    def changed(self, sign, word, values, given):
        if sign == "increment":
            return tuple(self.incremented(value, given) for value in values)
        fit = self.there(word, given)
        if sign == "replace":
            return fit
        if sign == "delete":
            return tuple(one for one in values if given and not any(self.same(word, one, value) for value in fit))
        for value in fit:
            if not any(self.same(word, one, value) for one in values):
                values += (value,)
        return values

    def incremented(self, value, step):
        self.demand(is_valid("integer", value) and is_valid("integer", str(int(value) + step)), "rule")
        return str(int(value) + step)

    def rename(self, stamp, mark, leaf, above, keep):
        self.demand(mark in self.entries, "entry")
        if above == ():
            above = self.entries[mark][0]
        else:
            self.demand(self.is_open(above), "parent")
        self.demand(not self.is_below(above, mark), "inside")
        self.demand(self.depth(above) + self.height(mark) <= 12, "deep")
        old, values = self.entries[mark][1:]
        leaf = self.leaf_for(stamp, mark, above, leaf)
        if not keep:
            self.drop(values, Name(old).pairs, dict(Name(leaf).pairs))
        for word, value in Name(leaf).pairs:
            if not any(self.same(word, value, one) for one in values.get(word, ())):
                values[word] = values.get(word, ()) + (value,)
        self.entries[mark] = (above, leaf, self.with_dup(stamp, values))

    def drop(self, values, pairs, new):
        for word, value in pairs:
            if word not in new or not self.same(word, value, new[word]):
                values[word] = tuple(one for one in values[word] if not self.same(word, one, value))
