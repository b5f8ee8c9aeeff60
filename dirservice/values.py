"""The syntaxes: which values are valid, and how they are compared."""

from dirservice.leaves import normal_leaf, split_name
from dirservice.words import fold, has_only, is_value

SYNTAXES = ("text", "exact", "integer", "truth", "name")
MAX_VALUE = 60
MAX_DIGITS = 30

ORDERED = ("text", "exact", "integer")
TRUTHS = ("TRUE", "FALSE")
DIGITS = "0123456789"


def is_exact(value):
    """Whether a value is valid for `exact`."""
    return len(value) <= MAX_VALUE


def is_text(value):
    """Whether a value is valid for `text`."""
    return len(value) <= MAX_VALUE and value.strip(" ") != ""


def is_integer(value):
    """Whether a value is valid for `integer`."""
    if value == "0":
        return True
    digits = value[1:] if value.startswith("-") else value
    return 1 <= len(digits) <= MAX_DIGITS and not digits.startswith("0") and has_only(digits, DIGITS)


def read_name(text):
    """The relative names, as tuples of pairs, of the name with this text; None for a value of any other kind."""
    leaves = split_name(text) if isinstance(text, str) else None
    if leaves is None:
        return None
    values = [value for pairs in leaves for _, value in pairs]
    if not all([is_valid("text", value) for value in values]):
        return None
    return leaves


def normal_leaves(leaves):
    """The normal texts of relative names that are tuples of pairs."""
    return tuple([normal_leaf(pairs) for pairs in leaves])


def is_valid(syntax, value):
    """Whether a value of any kind is valid for a syntax."""
    if not is_value(value):
        return False
    if syntax == "text":
        return is_text(value)
    if syntax == "exact":
        return is_exact(value)
    if syntax == "integer":
        return is_integer(value)
    if syntax == "truth":
        return value in TRUTHS
    return read_name(value) is not None


def normal(syntax, value):
    """The normal form of a valid value."""
    if syntax == "text":
        return fold(value)
    if syntax == "name":
        return ",".join(normal_leaves(read_name(value)))
    return value


def valid_normal(syntax, value):
    """The normal form of a value of any kind; None if it is not valid for a syntax."""
    if syntax != "name":
        return normal(syntax, value) if is_valid(syntax, value) else None
    # The text of a name is read only once.
    leaves = read_name(value)
    return ",".join(normal_leaves(leaves)) if leaves else None


def form(syntax, value):
    """What is the same for two strings, valid or not, if they are equal as values of a syntax."""
    # A normal form is valid itself, so it is never that of a value that is not.
    found = valid_normal(syntax, value)
    return value if found is None else found


def are_equal(syntax, one, other):
    """Whether two strings, valid or not, are equal as values of a syntax."""
    return form(syntax, one) == form(syntax, other)


def rank(syntax, normal_form):
    """What a normal form of a syntax that has an order is ordered by."""
    return int(normal_form) if syntax == "integer" else normal_form


def is_less(syntax, one, other):
    """Whether a valid value comes before another one, for a syntax that has an order."""
    return rank(syntax, normal(syntax, one)) < rank(syntax, normal(syntax, other))


def has_order(syntax):
    """Whether the values of a syntax have an order."""
    return syntax in ORDERED
