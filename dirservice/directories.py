"""Directories: entries in a tree, and the deeds that change them."""

from dirservice.deeds import check_deeds
from dirservice.drafts import Draft
from dirservice.entries import Entry
from dirservice.errors import BadEntry, NothingToUndo
from dirservice.names import as_name, path_of
from dirservice.tables import changed_texts, entries_straight_below, entry_at, is_within
from dirservice.tracking import mirrored_texts, with_mirrors

MAX_ENTRIES = 300
MAX_DEPTH = 12
MAX_UNDO = 20


class Directory:
    """Entries that follow the rules of a schema."""

    # A table is never changed once it is the directory's: what keeps an old one can go back to it.

    def __init__(self, schema, entries=()):
        check_entries(entries)
        self._schema = schema
        self._table = {}
        self._mirror_texts = None
        self._past = ()
        self._indexes = ()
        self._table = self.table_after(tuple([("add", entry) for entry in entries]), False)

    @property
    def schema(self):
        """The schema."""
        return self._schema

    @property
    def indexes(self):
        """The ascending pairs of the word of an attribute and an index of it."""
        return self._indexes

    @property
    def undoable(self):
        """The number of units that can be undone."""
        return len(self._past)

    @property
    def table(self):
        """The entries without mirrors by the paths of their names, in the order of names. Nobody changes it."""
        return self._table

    @property
    def mirror_texts(self):
        """The values of all mirrors, as dirservice.tracking tells them."""
        if self._mirror_texts is None:
            self._mirror_texts = mirrored_texts(self._schema, self._table)
        return self._mirror_texts

    def set_indexes(self, indexes):
        """Has other indexes from now on."""
        self._indexes = tuple(sorted(indexes))

    def set_table(self, table):
        """Has the entries of another table from now on."""
        self._table = table
        self._mirror_texts = None

    def add_entry(self, entry, *, manage=False):
        """Adds an entry; the texts of the names whose entries differ now."""
        check_entries((entry,))
        return self.do_unit((("add", entry),), manage)

    def delete(self, name, *, manage=False):
        """Deletes an entry; the texts of the names whose entries differ now."""
        return self.do_unit((("delete", name),), manage)

    def modify(self, name, changes, *, manage=False):
        """Changes the values of an entry; the texts of the names whose entries differ now."""
        return self.do_unit((("modify", name, changes),), manage)

    def rename(self, name, leaf, *, under=None, keep=False, manage=False):
        """Gives an entry another name; the texts of the names whose entries differ now."""
        return self.do_unit((("rename", name, leaf, under, keep),), manage)

    def apply(self, deeds, *, manage=False):
        """Does deeds one after the other, all or none; the texts of the names whose entries differ now."""
        check_deeds(deeds)
        return self.do_unit(deeds, manage)

    def table_after(self, deeds, manage):
        """The table that there would be after a unit."""
        draft = Draft(self._schema, self._table, MAX_ENTRIES, MAX_DEPTH)
        for deed in deeds:
            draft.do(deed, manage)
        return draft.finished()

    def do_unit(self, deeds, manage):
        """Does a unit that can be undone; the texts of the names whose entries differ now."""
        table = self.table_after(deeds, manage)
        changed = changed_texts(self._table, table)
        self._past = (self._past + (self._table,))[-MAX_UNDO:]
        self.set_table(table)
        return changed

    def undo(self):
        """Goes back to before the latest unit that was not undone."""
        if self.undoable == 0:
            raise NothingToUndo()
        self.set_table(self._past[-1])
        self._past = self._past[:-1]

    def attempt(self, function):
        """What a function of the directory returns, which is as before afterwards."""
        table = self._table
        past = self._past
        indexes = self._indexes
        try:
            return function(self)
        finally:
            self._table = table
            self._mirror_texts = None
            self._past = past
            self._indexes = indexes

    def walk(self, base=""):
        """All entries at a name and below it, in the order of names, without mirrors."""
        path = as_name(base).path
        for one in self._table:
            if is_within(one, path):
                yield self._table[one]

    def children(self, name=""):
        """The texts of the names straight below a name."""
        above = as_name(name)
        if above.path != ():
            entry_at(self._table, above)
        return tuple([entry.name.text for entry in entries_straight_below(self._table, above.path)])

    def entries_at(self, paths):
        """The entries at paths, with their mirrors."""
        texts = self.mirror_texts
        return [with_mirrors(self._schema, self._table[path], texts) for path in paths]

    def __getitem__(self, at):
        return with_mirrors(self._schema, entry_at(self._table, as_name(at)), self.mirror_texts)

    def __contains__(self, x):
        return path_of(x) in self._table

    def __len__(self):
        return len(self._table)

    def __iter__(self):
        raise TypeError("a directory is not iterated over")

    def __eq__(self, other):
        return isinstance(other, Directory) and self._schema == other._schema and self._table == other._table


def directory_of(schema, table):
    """A new directory with the entries of a table that one with this schema can have."""
    directory = Directory(schema)
    directory.set_table(table)
    return directory


def check_entries(entries):
    """Raises BadEntry with the first member that is no entry, or with all if they are no tuple."""
    if not isinstance(entries, tuple):
        raise BadEntry(entries)
    for entry in entries:
        if not isinstance(entry, Entry):
            raise BadEntry(entry)
