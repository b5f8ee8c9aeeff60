"""Searching: the entries of a part of a directory for which a filter is true."""

from dirservice.entries import Entry
from dirservice.errors import BadNumber, BadScope, NoOrder, PagingOver, SizeLimit
from dirservice.filters import as_filter
from dirservice.indexes import candidate_views, views_at
from dirservice.names import as_name
from dirservice.referrals import check_referral, is_referral, targets_of
from dirservice.tables import entry_at, paths_within
from dirservice.values import has_order
from dirservice.words import is_count

SCOPES = ("base", "one", "below", "subtree")


class Result:
    """What a search found."""

    def __init__(self, entries, references, looked):
        self._entries = entries
        self._references = references
        self._looked = looked

    @property
    def entries(self):
        """The entries that were found."""
        return self._entries

    @property
    def references(self):
        """The pairs of targets and a scope at which others may be found."""
        return self._references

    @property
    def looked(self):
        """How many entries were looked at."""
        return self._looked

    def __len__(self):
        return len(self._entries)

    def __getitem__(self, at):
        return self._entries[at]

    def __iter__(self):
        raise TypeError("a result is not iterated over")


def search(directory, base, scope="subtree", wanted="(&)", *, words=None, order=(), limit=None, manage=False):
    """The Result of a search."""
    name = as_name(base)
    check_scope(scope)
    tree = as_filter(wanted)
    check_attributes(directory.schema, words, order)
    if limit is not None:
        check_number(limit)
    check_base(directory, name, manage)
    views = views_at(directory, paths_in_scope(directory.table, name.path, scope))
    known = candidate_views(directory, views, tree)
    looked = views if known is None else known
    found = [view for view in looked if is_found(view, tree, manage)]
    if limit is not None and len(found) > limit:
        raise SizeLimit(limit)
    for key in order[::-1]:
        found = ordered(found, key)
    entries = tuple([with_words(view.entry, words) for view in found])
    return Result(entries, () if manage else references_of(views, scope), len(looked))


def how_many(directory, base, scope="subtree", wanted="(&)", *, manage=False):
    """The number of entries that a search finds."""
    return len(search(directory, base, scope, wanted, manage=manage))


class Paging:
    """The entries that a search found, page by page."""

    def __init__(self, directory, size, base, scope="subtree", wanted="(&)", **options):
        check_number(size)
        self._directory = directory
        self._size = size
        self._base = base
        self._scope = scope
        self._wanted = wanted
        self._options = options
        self._waiting = search(directory, base, scope, wanted, **options).entries

    def page(self):
        """The next entries."""
        if self.is_over:
            raise PagingOver()
        entries = self._waiting[:self._size]
        self._waiting = self._waiting[self._size:]
        return entries

    @property
    def left(self):
        """How many entries were not returned yet."""
        return len(self._waiting)

    @property
    def is_over(self):
        """Whether no entry is left."""
        return self.left == 0

    def again(self):
        """A new paging with the same arguments, from the present moment."""
        return Paging(self._directory, self._size, self._base, self._scope, self._wanted, **self._options)


def check_scope(scope):
    """Raises BadScope for what is none."""
    if scope not in SCOPES:
        raise BadScope(scope)


def check_number(value):
    """Raises BadNumber for what is no integer of at least 1."""
    if not is_count(value):
        raise BadNumber(value)


def check_attributes(schema, words, order):
    """Raises the error of the first word that is asked for, or ordered by, and is no attribute or has no order."""
    keys = [word_of(key) for key in order]
    for word in list(words or ()) + keys:
        # What is asked raises UnknownAttribute itself.
        schema.syntax_of(word)
    for word in keys:
        if not has_order(schema.syntax_of(word)):
            raise NoOrder(word)


def word_of(key):
    """The word of a key, which may be any value, without the sign of descending order."""
    return key[1:] if is_descending(key) else key


def is_descending(key):
    """Whether a key of any kind is one of descending order."""
    return isinstance(key, str) and key.startswith("-")


def check_base(directory, name, manage):
    """Raises Referral or NoEntry if a search cannot begin at a name."""
    check_referral(directory.table, name, name.path[:-1] if manage else name.path)
    if name.path != ():
        entry_at(directory.table, name)


def paths_in_scope(table, base, scope):
    """The paths of the entries in a scope, in the order of names."""
    if scope == "base":
        return [base] if base in table else []
    within = paths_within(table, base)
    if scope == "one":
        return [path for path in within if len(path) == len(base) + 1]
    return [path for path in within if path != base] if scope == "below" else within


def is_found(view, tree, manage):
    """Whether the entry of a view is found."""
    return (manage or not is_referral(view.entry)) and tree.judged(view) is True


def references_of(views, scope):
    """The references that the entries of some views give to a search with a scope."""
    there = "base" if scope == "one" else "subtree"
    referrals = [view.entry for view in views if is_referral(view.entry)]
    return tuple([(targets_of(entry, entry.name), there) for entry in referrals])


def ordered(views, key):
    """Views in the order of a key; those that are equal by it stay in their order."""
    word = word_of(key)
    there = [view for view in views if view.is_there(word)]
    last = [view for view in views if not view.is_there(word)]
    if is_descending(key):
        rows = sorted([(max(view.ranks(word)), view) for view in there], key=rank_of_row, reverse=True)
    else:
        rows = sorted([(min(view.ranks(word)), view) for view in there], key=rank_of_row)
    return [view for _, view in rows] + last


def rank_of_row(row):
    """What a row of a rank and a view is ordered by."""
    return row[0]


def with_words(entry, words):
    """An entry with some attributes alone; None stands for all."""
    return entry if words is None else Entry.of(entry.name, {word: entry[word] for word in words})
