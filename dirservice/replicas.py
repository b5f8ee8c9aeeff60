"""Replicas: directories that are changed separately and exchange their changes."""

from dirservice.directories import MAX_ENTRIES, directory_of
from dirservice.errors import BadChange, BadHost, Behind, Forgotten, Full, Gap
from dirservice.histories import History
from dirservice.hosts import is_host
from dirservice.marks import is_mark, marked_attributes, marked_changes
from dirservice.names import as_name
from dirservice.tables import entry_at
from dirservice.tracking import tracked_words
from dirservice.vectors import check_vector, check_vectors, counts


class Change:
    """A deed at a replica."""

    def __init__(self, stamp, number, deed):
        self._stamp = stamp
        self._number = number
        self._deed = deed

    @property
    def stamp(self):
        """The pair of its time and the word of its replica."""
        return self._stamp

    @property
    def number(self):
        """Its number among the changes of its replica."""
        return self._number

    @property
    def deed(self):
        """The deed, in which marks stand for entries."""
        return self._deed

    def __eq__(self, other):
        if not isinstance(other, Change):
            return False
        return self._stamp == other._stamp and self._number == other._number and self._deed == other._deed


class Replica:
    """The changes that were done here, and those that were taken from other replicas."""

    def __init__(self, word, schema):
        if not is_host(word):
            raise BadHost(word)
        self._word = word
        self._schema = schema
        self._tracked = tracked_words(schema)
        self._history = History(schema)
        # The numbers of the changes of each replica, and the greatest time; forgotten changes count.
        self._counts = {}
        self._time = 0
        self._forgotten = {}
        # The entries and their marks by the paths of their names, worked out when they are asked for.
        self._table = None
        self._marks = None

    @property
    def word(self):
        """Its word, a host."""
        return self._word

    @property
    def vector(self):
        """How many changes of each replica it has."""
        return {word: self._counts[word] for word in sorted(self._counts)}

    @property
    def conflicts(self):
        """The pairs of the stamp and the reason of each change that has a reason."""
        return self._history.now.conflicts

    def as_directory(self):
        """A new directory with its entries."""
        self.work_out()
        if len(self._table) > MAX_ENTRIES:
            raise Full(MAX_ENTRIES)
        return directory_of(self._schema, self._table)

    def work_out(self):
        """Works out the entries and their marks by the paths of their names."""
        if self._table is None:
            entries = self._history.now.named_entries()
            rows = sorted([(entries[mark].name.path, mark) for mark in entries])
            self._table = {path: entries[mark] for path, mark in rows}
            self._marks = {path: mark for path, mark in rows}

    def add_entry(self, entry):
        """Adds an entry; the stamp of the change."""
        self.as_directory().add_entry(entry, manage=True)
        path = entry.name.path
        marks = {one: self._marks[one] for one in self._marks}
        marks[path] = self.next_stamp()
        attributes = marked_attributes(entry, self._tracked, marks)
        return self.add_change(("add", marks.get(path[:-1]), entry.name.leaf, attributes))

    def delete(self, name):
        """Deletes an entry; the stamp of the change."""
        self.as_directory().delete(name, manage=True)
        return self.add_change(("delete", self.mark_at(name)))

    def modify(self, name, changes):
        """Changes the values of an entry; the stamp of the change."""
        self.as_directory().modify(name, changes, manage=True)
        return self.add_change(("modify", self.mark_at(name), marked_changes(changes, self._tracked, self._marks)))

    def rename(self, name, leaf, *, under=None, keep=False):
        """Gives an entry another name; the stamp of the change."""
        self.as_directory().rename(name, leaf, under=under, keep=keep, manage=True)
        above = () if under is None else self.mark_at(under)
        return self.add_change(("rename", self.mark_at(name), leaf, above, keep))

    def mark_at(self, name):
        """The mark of the entry with a name; None for the empty name."""
        return self._marks.get(as_name(name).path)

    def next_stamp(self):
        """The stamp of the next own change."""
        return self._time + 1, self._word

    def count_of(self, word):
        """How many changes of a replica it has."""
        return self._counts.get(word, 0)

    def add_change(self, deed):
        """Adds an own change; its stamp."""
        change = Change(self.next_stamp(), self.count_of(self._word) + 1, deed)
        self.put_in([change])
        return change.stamp

    def put_in(self, changes):
        """Adds changes, a list with at least one, that are in ascending order of stamps."""
        for change in changes:
            time, word = change.stamp
            self._time = max(self._time, time)
            self._counts[word] = change.number
        self._history.put_in(changes)
        self._table = None
        self._marks = None

    def changes(self, vector=None):
        """The changes that a replica with a vector lacks, in ascending order of stamps."""
        known = {} if vector is None else vector
        check_vector(known)
        for word in sorted(self._forgotten):
            if known.get(word, 0) < self._forgotten[word]:
                raise Forgotten(word)
        return tuple([change for change in self._history.rows if not counts(known, change)])

    def take(self, changes):
        """Adds the changes that it lacks; their number."""
        check_given(changes)
        vector = self.vector
        fresh = {change.stamp: change for change in changes if not counts(vector, change)}
        rows = [fresh[stamp] for stamp in sorted(fresh)]
        for word in sorted(set([change.stamp[1] for change in rows])):
            numbers = [change.number for change in rows if change.stamp[1] == word]
            first = self.count_of(word) + 1
            if numbers != list(range(first, first + len(numbers))):
                raise Gap(word)
        if rows:
            self.put_in(rows)
        return len(rows)

    def pull(self, other):
        """Takes all changes of another replica that it lacks; their number."""
        return self.take(other.changes(self.vector))

    def trim(self, vectors):
        """Forgets the first changes that all vectors count; their number."""
        check_vectors(vectors)
        behind = [word for vector in vectors for word in vector if vector[word] > self.count_of(word)]
        if behind:
            raise Behind(min(behind))
        count = 0
        for change in self._history.rows:
            # Times need not be compared: a vector that counts a change has no lesser greatest time.
            if not all([counts(vector, change) for vector in vectors]):
                break
            self._forgotten[change.stamp[1]] = change.number
            count += 1
        self._history.forget(count)
        return count

    def mark_of(self, name):
        """The mark of the entry with a name."""
        wanted = as_name(name)
        entry_at(self.as_directory().table, wanted)
        return self.mark_at(wanted)

    def name_of(self, mark):
        """The text of the name of the entry with a mark; None if it is the mark of none."""
        return self._history.now.text_of(mark) if is_mark(mark) else None


def check_given(changes):
    """Raises BadChange with the place of the first member that is no Change."""
    if not isinstance(changes, tuple):
        raise BadChange(None)
    for place, change in enumerate(changes):
        if not isinstance(change, Change):
            raise BadChange(place)
