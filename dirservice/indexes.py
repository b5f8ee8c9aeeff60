"""Indexes, and the entries that they tell for a filter."""

from dirservice.errors import BadIndex, IndexTaken, NoIndex
from dirservice.filters import All, AtLeast, AtMost, Equal, Pieces, Present, Some, as_filter
from dirservice.values import has_order
from dirservice.views import View

INDEXES = ("present", "equal", "order", "pieces")
ROW = 3


def add_index(directory, word, index):
    """Puts up an index of an attribute."""
    if not is_possible(directory.schema.syntax_of(word), index):
        raise BadIndex(index)
    if (word, index) in directory.indexes:
        raise IndexTaken((word, index))
    directory.set_indexes((*directory.indexes, (word, index)))


def drop_index(directory, word, index):
    """Takes an index of an attribute away."""
    if (word, index) not in directory.indexes:
        raise NoIndex((word, index))
    directory.set_indexes([pair for pair in directory.indexes if pair != (word, index)])


def is_possible(syntax, index):
    """Whether a value of any kind is an index that attributes of a syntax can have."""
    if index == "order":
        return has_order(syntax)
    if index == "pieces":
        return syntax in ("text", "exact")
    return index in INDEXES


def candidates(directory, wanted):
    """The texts of the names of all entries that the indexes leave for a filter; None if they tell nothing."""
    tree = as_filter(wanted)
    # An index keeps nothing beside the entries, so that no deed, undo or attempt can leave it behind.
    found = candidate_views(directory, views_at(directory, list(directory.table)), tree)
    return None if found is None else tuple([view.entry.name.text for view in found])


def views_at(directory, paths):
    """Views of the entries at paths, with their mirrors."""
    return [View(directory.schema, entry) for entry in directory.entries_at(paths)]


def candidate_views(directory, views, wanted):
    """Those of some views whose entries are candidates of a filter; None if that is unknown."""
    marks = marks_of(directory, views, wanted)
    return None if marks is None else [view for view, mark in zip(views, marks) if mark]


def marks_of(directory, views, wanted):
    """Whether the entry of each view is a candidate of a filter; None if that is unknown."""
    if isinstance(wanted, (All, Some)):
        rows = [marks_of(directory, views, part) for part in wanted.parts]
        return marks_of_all(rows) if isinstance(wanted, All) else marks_of_some(rows, len(views))
    if (wanted.word, index_of(wanted)) not in directory.indexes:
        return None
    if isinstance(wanted, Pieces):
        return marks_of_pieces(views, wanted.word, wanted.pieces_for(directory.schema.syntax_of(wanted.word)))
    return [wanted.judged(view) is True for view in views]


def marks_of_all(rows):
    """The marks that are in all rows that are known."""
    known = [row for row in rows if row is not None]
    return [all(marks) for marks in zip(*known)] if known else None


def marks_of_some(rows, count):
    """The marks that are in some row, for a number of entries."""
    if None in rows:
        return None
    return [any([row[place] for row in rows]) for place in range(count)]


def index_of(comparison):
    """The index that knows the candidates of a comparison; None for filters that are none."""
    if isinstance(comparison, Present):
        return "present"
    if isinstance(comparison, Equal):
        return "equal"
    if isinstance(comparison, (AtLeast, AtMost)):
        return "order"
    return "pieces" if isinstance(comparison, Pieces) else None


def marks_of_pieces(views, word, pieces):
    """The marks of a comparison with pieces; None if no piece is long enough."""
    rows = [piece[at:at + ROW] for piece in pieces for at in range(len(piece) - ROW + 1)]
    return [has_rows(view.forms(word), rows) for view in views] if rows else None


def has_rows(forms, rows):
    """Whether each row of characters occurs in some normal form."""
    for row in rows:
        if not any([row in one for one in forms]):
            return False
    return True
