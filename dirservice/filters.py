"""Filters: what a search asks of entries."""

from dirservice.errors import BadFilter
from dirservice.filter_texts import FilterReader, written
from dirservice.values import SYNTAXES, has_order, rank, valid_normal
from dirservice.views import View
from dirservice.words import is_value, is_word

MAX_PARTS = 60
MAX_LEVELS = 12


class Filter:
    """A filter of one of the classes below."""

    def __init__(self, text, parts=(), word=None):
        self._text = text
        self._parts = parts
        self._word = word
        self._levels = 1 + max([0] + [part.levels for part in parts])
        self._size = 1 + sum([part.size for part in parts])
        if self._levels > MAX_LEVELS or self._size > MAX_PARTS:
            raise BadFilter(None)

    @property
    def text(self):
        """The text."""
        return self._text

    @property
    def parts(self):
        """The filters of which it is made, none for a comparison."""
        return self._parts

    @property
    def word(self):
        """The word of the attribute of a comparison, None for other filters."""
        return self._word

    @property
    def levels(self):
        """The number of its levels."""
        return self._levels

    @property
    def size(self):
        """The number of its parts, itself and those of its parts included."""
        return self._size

    def result(self, schema, entry):
        """True or False for an entry, None if that is undefined."""
        return self.judged(View(schema, entry))

    def judged(self, view):
        """The result for the entry of a view."""
        raise NotImplementedError("each class of filters has its own")

    def simplified(self):
        """The simplified filter."""
        # Nothing fits a comparison; the other classes have their own.
        return self

    def __and__(self, other):
        return All(self, other)

    def __or__(self, other):
        return Some(self, other)

    def __neg__(self):
        return Not(self)

    def __eq__(self, other):
        return isinstance(other, Filter) and self._text == other._text

    def __str__(self):
        return str(self._text)


class All(Filter):
    """Whether all parts are true."""

    def __init__(self, *parts):
        check_arguments([isinstance(part, Filter) for part in parts])
        super().__init__(row_text("&", parts), parts)

    def judged(self, view):
        """False if a part is, else None if a part is, else True."""
        return decided(self._parts, view, False)

    def simplified(self):
        """The simplified filter."""
        simple = [part.simplified() for part in self._parts]
        parts = joined([part.parts if isinstance(part, All) else (part,) for part in simple])
        if Some() in parts:
            return Some()
        return parts[0] if len(parts) == 1 else All(*parts)


class Some(Filter):
    """Whether a part is true."""

    def __init__(self, *parts):
        check_arguments([isinstance(part, Filter) for part in parts])
        super().__init__(row_text("|", parts), parts)

    def judged(self, view):
        """True if a part is, else None if a part is, else False."""
        return decided(self._parts, view, True)

    def simplified(self):
        """The simplified filter."""
        simple = [part.simplified() for part in self._parts]
        parts = joined([part.parts if isinstance(part, Some) else (part,) for part in simple])
        if All() in parts:
            return All()
        return parts[0] if len(parts) == 1 else Some(*parts)


class Not(Filter):
    """Whether a part is false."""

    def __init__(self, part):
        check_arguments([isinstance(part, Filter)])
        super().__init__(row_text("!", (part,)), (part,))

    def judged(self, view):
        """The opposite of the part's; None stays None."""
        found = self._parts[0].judged(view)
        return None if found is None else not found

    def simplified(self):
        """The simplified filter."""
        part = self._parts[0].simplified()
        if isinstance(part, Not):
            return part.parts[0]
        if part == All():
            return Some()
        return All() if part == Some() else Not(part)


class Present(Filter):
    """Whether there is a value of an attribute."""

    def __init__(self, word):
        check_arguments([is_word(word)])
        super().__init__(comparison_text(word, "=", ("", "")), (), word)

    def judged(self, view):
        """None only for an attribute that is not in the schema."""
        return None if view.syntax_of(self._word) is None else view.is_there(self._word)


class Equal(Filter):
    """Whether there is a value that equals a given one."""

    def __init__(self, word, value):
        check_arguments([is_word(word), is_value(value)])
        super().__init__(comparison_text(word, "=", (value,)), (), word)
        self._value = value
        self._forms = forms_of(value)

    def judged(self, view):
        """None also for a value that is not valid; for `kind`, whether the entry belongs to the class."""
        if self._word == "kind":
            return view.is_in_class(self._value)
        syntax = view.syntax_of(self._word)
        if syntax is None or self._forms[syntax] is None:
            return None
        return self._forms[syntax] in view.forms(self._word)


class AtLeast(Filter):
    """Whether there is a value that is not less than a given one."""

    def __init__(self, word, value):
        check_arguments([is_word(word), is_value(value)])
        super().__init__(comparison_text(word, ">=", (value,)), (), word)
        self._forms = forms_of(value)

    def judged(self, view):
        """None also for a value that is not valid, and for a syntax without an order."""
        least = rank_for(view, self._word, self._forms)
        return None if least is None else any([one >= least for one in view.ranks(self._word)])


class AtMost(Filter):
    """Whether there is a value that is not greater than a given one."""

    def __init__(self, word, value):
        check_arguments([is_word(word), is_value(value)])
        super().__init__(comparison_text(word, "<=", (value,)), (), word)
        self._forms = forms_of(value)

    def judged(self, view):
        """None also for a value that is not valid, and for a syntax without an order."""
        most = rank_for(view, self._word, self._forms)
        return None if most is None else any([one <= most for one in view.ranks(self._word)])


class Pieces(Filter):
    """Whether there is a value that begins and ends with the outer pieces, and has the others between."""

    def __init__(self, word, *pieces):
        ends = (0, len(pieces) - 1)
        rights = [is_value(piece) or (piece == "" and place in ends) for place, piece in enumerate(pieces)]
        check_arguments([is_word(word)] + rights)
        if len(pieces) < 2 or pieces == ("", ""):
            raise BadFilter(None)
        super().__init__(comparison_text(word, "=", pieces), (), word)
        self._pieces = pieces

    def pieces_for(self, syntax):
        """The pieces as they count for a syntax; None if it has no pieces."""
        if syntax == "exact":
            return self._pieces
        return tuple([folded(piece) for piece in self._pieces]) if syntax == "text" else None

    def judged(self, view):
        """None also for a syntax that has no pieces."""
        pieces = self.pieces_for(view.syntax_of(self._word))
        if pieces is None:
            return None
        return any([has_pieces(value, pieces) for value in view.forms(self._word)])


def check_arguments(rights):
    """Raises BadFilter with the place of the first argument that is not right."""
    for place, right in enumerate(rights):
        if not right:
            raise BadFilter(place)


def row_text(sign, parts):
    """The text of a filter that is made of parts."""
    return "(" + sign + "".join([part.text for part in parts]) + ")"


def comparison_text(word, sign, pieces):
    """The text of a comparison."""
    return "(" + word + sign + "*".join([written(piece) for piece in pieces]) + ")"


def decided(parts, view, decisive):
    """The result that decides if a part has it, else None if a part has that, else the other one."""
    found = not decisive
    for part in parts:
        one = part.judged(view)
        if one == decisive:
            return decisive
        if one is None:
            found = None
    return found


def joined(rows):
    """The filters of all rows, each only where it comes first."""
    return list({part.text: part for row in rows for part in row}.values())


def forms_of(value):
    """The normal form of a value by each syntax; None for those for which it is not valid."""
    return {syntax: valid_normal(syntax, value) for syntax in SYNTAXES}


def rank_for(view, word, forms):
    """The rank of a value with these forms among those of an attribute; None if it has none."""
    syntax = view.syntax_of(word)
    if syntax is None or not has_order(syntax) or forms[syntax] is None:
        return None
    return rank(syntax, forms[syntax])


def folded(piece):
    """A piece as it counts for `text`."""
    piece = piece.lower()
    # Not the normal form of a value, in which no spaces stay at the ends.
    while "  " in piece:
        piece = piece.replace("  ", " ")
    return piece


def has_pieces(value, pieces):
    """Whether a normal form begins and ends with the outer pieces, and has the others between."""
    if not value.startswith(pieces[0]) or not value.endswith(pieces[-1]):
        return False
    at = len(pieces[0])
    for piece in pieces[1:-1]:
        # The first place leaves the most room for the pieces that follow.
        place = value.find(piece, at)
        if place < 0:
            return False
        at = place + len(piece)
    return at + len(pieces[-1]) <= len(value)


def as_filter(given):
    """The filter that a Filter or a text gives."""
    return given if isinstance(given, Filter) else read_filter(given)


def read_filter(text):
    """The filter with a text."""
    if not isinstance(text, str):
        raise BadFilter(None)
    return filter_of(FilterReader(text, MAX_PARTS, MAX_LEVELS).read_whole())


def filter_of(tree):
    """The filter for which a tree of dirservice.filter_texts stands."""
    if tree[0] in ("&", "|", "!"):
        parts = [filter_of(part) for part in tree[1]]
        if tree[0] == "!":
            return Not(parts[0])
        return All(*parts) if tree[0] == "&" else Some(*parts)
    return comparison_of(*tree)


def comparison_of(sign, word, pieces):
    """The comparison with a sign, a word and pieces."""
    if sign == ">=":
        return AtLeast(word, pieces[0])
    if sign == "<=":
        return AtMost(word, pieces[0])
    if pieces == ("", ""):
        return Present(word)
    return Equal(word, pieces[0]) if len(pieces) == 1 else Pieces(word, *pieces)
