"""Tables: dicts from the paths of names to the entries of a directory."""

from dirservice.errors import NoEntry


def entry_at(table, name):
    """The entry with a name."""
    if name.path not in table:
        raise NoEntry(name.text, text_above(table, name.path))
    return table[name.path]


def text_at(table, path):
    """The text of the name of the entry at a path; the empty text if there is none."""
    return table[path].name.text if path in table else ""


def text_above(table, path):
    """The text of the longest name above a path that has an entry; the empty text if none has."""
    for depth in range(len(path) - 1, 0, -1):
        if path[:depth] in table:
            return text_at(table, path[:depth])
    return ""


def is_within(path, base):
    """Whether a path is a base or below it."""
    return path[:len(base)] == base


def paths_within(table, base):
    """The paths of the entries at a base and below it, in the order of names."""
    return sorted([path for path in table if is_within(path, base)])


def entries_straight_below(table, base):
    """The entries straight below a base, in the order of names."""
    return [table[path] for path in paths_within(table, base) if len(path) == len(base) + 1]


def changed_texts(old, new):
    """The texts of the names whose entries differ between two tables, in the order of names."""
    texts = []
    for path in sorted(set(list(old) + list(new))):
        if old.get(path) != new.get(path):
            texts.append(text_at(new if path in new else old, path))
    return tuple(texts)
