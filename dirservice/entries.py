"""Entries: names with attributes and their values."""

from dirservice.errors import BadEntry
from dirservice.names import as_name
from dirservice.words import is_value, is_word


def check_words(attributes):
    """Raises BadEntry with the first word of a dict that is no word or has no tuple of values."""
    for word in attributes:
        if not is_word(word) or not are_values(attributes[word]):
            raise BadEntry(word)


def are_values(values):
    """Whether something of any kind is a tuple of values."""
    return isinstance(values, tuple) and all([is_value(value) for value in values])


class Entry:
    """The name of an entry, and its attributes with their values."""

    def __init__(self, entry_name, **attributes):
        self._name = as_name(entry_name)
        check_words(attributes)
        self._values = {word: attributes[word] for word in sorted(attributes) if attributes[word] != ()}

    @staticmethod
    def of(entry_name, attributes):
        """The entry with the attributes of a dict."""
        name = as_name(entry_name)
        if not isinstance(attributes, dict):
            raise BadEntry(attributes)
        # Checked first, since a key that is no string could not be passed on.
        check_words(attributes)
        return Entry(name, **attributes)

    @property
    def name(self):
        """Its name, a Name."""
        return self._name

    @property
    def words(self):
        """The ascending words of its attributes."""
        return tuple(self._values)

    def with_values(self, **attributes):
        """An entry with these attributes in place of its own ones."""
        # Checked first, since the order given is not that of the entry that is made.
        check_words(attributes)
        return Entry.of(self._name, {**self._values, **attributes})

    def renamed(self, name):
        """An entry with another name and the same attributes."""
        return Entry.of(name, self._values)

    def __getitem__(self, at):
        return self._values[at] if at in self else ()

    def __contains__(self, x):
        return isinstance(x, str) and x in self._values

    def __iter__(self):
        raise TypeError("an entry is not iterated over")

    def __eq__(self, other):
        return isinstance(other, Entry) and self._name.text == other._name.text and self._values == other._values
