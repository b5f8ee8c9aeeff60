"""Marks: the stamps of the changes that added the entries of replicas."""

from dirservice.hosts import is_host
from dirservice.names import path_of
from dirservice.words import is_count


def is_mark(value):
    """Whether a value of any kind has the form of a mark."""
    return isinstance(value, tuple) and len(value) == 2 and is_count(value[0]) and is_host(value[1])


def mark_text(mark):
    """The text of a mark, also the value of `dup` for the stamp of a change."""
    return f"{mark[0]}-{mark[1]}"


def stand_in(mark):
    """A valid value of syntax `name`, another one for each mark."""
    return "mark=" + mark_text(mark)


def marked_values(values, marks):
    """The marks, by a dict from paths, of the entries that values name; values that name none are left out."""
    paths = [path_of(value) for value in values]
    return tuple([marks[path] for path in paths if path in marks])


def marked_attributes(entry, tracked, marks):
    """The ascending pairs of the words of an entry and their values, marks for those of tracked attributes."""
    rows = [(word, entry[word]) for word in entry.words]
    return tuple([(word, marked_values(values, marks) if word in tracked else values) for word, values in rows])


def marked_changes(changes, tracked, marks):
    """Changes with marks for the values of tracked attributes, without those that have no effect then."""
    marked = []
    for sign, word, given in changes:
        values = marked_values(given, marks) if word in tracked else given
        # Without values, a change to delete would mean all.
        if sign == "replace" or values != () or given == ():
            marked.append((sign, word, values))
    return tuple(marked)
