"""Drafts: the entries of a directory while a unit of deeds is done."""

from dirservice.changes import changed_entry, check_changes, with_leaf_values
from dirservice.errors import BadName, Full, HasChildren, InUse, Inside, NameTaken, NoTarget, TooDeep
from dirservice.leaves import join_names
from dirservice.names import Name, as_name, is_leaf, path_of
from dirservice.referrals import check_referral, is_referral
from dirservice.rules import check_place, missing_words
from dirservice.tables import entries_straight_below, entry_at, is_within, paths_within, text_at
from dirservice.tracking import tracked_words


class Draft:
    """A copy of a table, and the deeds that are done to it. After an error it is of no use."""

    def __init__(self, schema, table, most_entries, most_depth):
        self._schema = schema
        self._table = {path: table[path] for path in table}
        self._most_entries = most_entries
        self._most_depth = most_depth
        self._tracked = tracked_words(schema)
        # Kept, since the same values are looked up many times.
        self._places = {table[path].name.text: path for path in table}

    def do(self, deed, manage):
        """Does a deed that has the form of one; its names may be Names, too."""
        if deed[0] == "add":
            self.add_entry(deed[1])
        elif deed[0] == "delete":
            self.delete(as_name(deed[1]), manage)
        elif deed[0] == "modify":
            name = as_name(deed[1])
            check_changes(deed[2])
            self.modify(name, deed[2], manage)
        else:
            name = as_name(deed[1])
            if not is_leaf(deed[2]):
                raise BadName(deed[2])
            under = None if deed[3] is None else as_name(deed[3])
            self.rename(name, Name(deed[2]), under, deed[4], manage)

    def add_entry(self, entry):
        """Adds a new entry."""
        name = entry.name
        above = name.path[:-1]
        check_referral(self._table, name, above)
        if name.path in self._table or name.path == ():
            raise NameTaken(text_at(self._table, name.path))
        if above != ():
            entry_at(self._table, name.parent)
        added = entry.renamed(join_names(name.leaf, text_at(self._table, above)))
        self.check(added)
        if len(self._table) >= self._most_entries:
            raise Full(self._most_entries)
        self._table[name.path] = added

    def delete(self, name, manage):
        """Deletes an entry."""
        entry = self.entry_for(name, manage)
        if len(paths_within(self._table, name.path)) > 1:
            raise HasChildren(entry.name.text)
        del self._table[name.path]
        for path in sorted(self._table):
            left = self.followed(self._table[path], {name.path: None})
            if left != self._table[path] and missing_words(self._schema, left):
                raise InUse(left.name.text)
            self._table[path] = left

    def modify(self, name, changes, manage):
        """Does changes to an entry."""
        entry = self.entry_for(name, manage)
        changed = changed_entry(self._schema, entry, changes)
        self._table[name.path] = changed
        self.check(changed)

    def rename(self, name, leaf, under, keep, manage):
        """Gives an entry another relative name, that of the name leaf, and perhaps another entry above."""
        entry = self.entry_for(name, manage)
        above = name.path[:-1] if under is None else self.path_above(name, under)
        path = above + leaf.path
        if path != name.path and path in self._table:
            raise NameTaken(text_at(self._table, path))
        family = paths_within(self._table, name.path)
        if max([len(old) for old in family]) - len(name.path) + len(path) > self._most_depth:
            raise TooDeep(self._most_depth)
        self._table[name.path] = with_leaf_values(self._schema, entry, leaf, keep)
        self.move(entry.name, Name(join_names(leaf.text, text_at(self._table, above))))
        self.check(self._table[path])

    def path_above(self, name, under):
        """The path of the new entry above an entry that is renamed, or the empty one."""
        check_referral(self._table, under, under.path)
        if under.path == ():
            return ()
        above = entry_at(self._table, under)
        if is_within(under.path, name.path):
            raise Inside(above.name.text)
        return under.path

    def move(self, old, new):
        """Gives the entries at a name and below it their new names, and lets tracked values follow."""
        texts = {}
        moved = []
        family = paths_within(self._table, old.path)
        for path in family:
            entry = self._table[path]
            moved.append(entry.renamed(entry.name.moved(old, new)))
            texts[path] = moved[-1].name.text
            del self._table[path]
        for entry in moved:
            self._table[entry.name.path] = entry
        for path in list(self._table):
            self._table[path] = self.followed(self._table[path], texts)

    def entry_for(self, name, manage):
        """The entry with the name that was passed to a deed."""
        check_referral(self._table, name, name.path[:-1] if manage else name.path)
        return entry_at(self._table, name)

    def check(self, entry):
        """Rules 1 to 9 for an entry, then rule 8 for each entry straight below it."""
        path = entry.name.path
        check_between(self._schema, entry, self._table.get(path[:-1]), entries_straight_below(self._table, path))

    def place_of(self, value):
        """The path of the name that a value is; if it is none, the value."""
        if value not in self._places:
            path = path_of(value)
            self._places[value] = value if path is None else path
        return self._places[value]

    def followed(self, entry, texts):
        """An entry with the texts of a dict by paths in place of tracked values, without those of None."""
        changed = {}
        for word in self._tracked:
            values = self.followed_values(entry[word], texts)
            if values != entry[word]:
                changed[word] = values
        return entry.with_values(**changed) if changed else entry

    def followed_values(self, values, texts):
        """Values with the texts of a dict by paths in their place, only the first one of equal ones."""
        if not any([self.place_of(value) in texts for value in values]):
            return values
        found = {}
        for value in values:
            text = texts.get(self.place_of(value), value)
            if text is not None:
                found.setdefault(self.place_of(text), text)
        return tuple(found.values())

    def check_targets(self, entry):
        """Rule 10: the tracked values of an entry are names of entries."""
        for word in self._tracked:
            for value in entry[word]:
                if self.place_of(value) not in self._table:
                    raise NoTarget(word, value)

    def finished(self):
        """The table after the unit, in the order of names."""
        for path in sorted(self._table):
            self.check_targets(self._table[path])
        texts = {path: text_at(self._table, path) for path in self._table}
        return {path: self.followed(self._table[path], texts) for path in sorted(self._table)}


def check_between(schema, entry, above, below):
    """Rules 1 to 9 for an entry below another one, or None, then rule 8 for the entries straight below it."""
    schema.check(entry, above)
    if below and is_referral(entry):
        raise HasChildren(entry.name.text)
    for one in below:
        check_place(schema, one, entry)
