"""Words and values, of which names, schemas and entries are made."""

LETTERS = "abcdefghijklmnopqrstuvwxyz"
MAX_WORD = 12


def has_only(text, signs):
    """Whether all characters of a text are among the signs."""
    return all([sign in signs for sign in text])


def is_word(value):
    """Whether a value of any kind is a word."""
    # A method could not be passed values under the name `self`.
    if not isinstance(value, str) or value == "self":
        return False
    return 1 <= len(value) <= MAX_WORD and has_only(value, LETTERS)


def is_value(value):
    """Whether something of any kind is a value."""
    return isinstance(value, str) and value != "" and "\n" not in value


def is_key(value, table):
    """Whether a value of any kind is one of the strings that are keys of a dict."""
    # Only a string is surely hashable.
    return isinstance(value, str) and value in table


def fold(value):
    """The normal form of a value that is valid for `text`."""
    return " ".join([part for part in value.lower().split(" ") if part != ""])


def is_count(value):
    """Whether a value of any kind is an integer of at least 1."""
    return isinstance(value, int) and not isinstance(value, bool) and value >= 1
