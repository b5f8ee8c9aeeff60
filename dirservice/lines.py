"""The lines of texts, read one after the other."""

from dirservice.entries import Entry
from dirservice.errors import BadText
from dirservice.values import read_name
from dirservice.words import is_word


class Lines:
    """The lines of a text, and how many of them were read."""

    def __init__(self, text):
        if not isinstance(text, str):
            raise BadText(0)
        self._rows = text.split("\n")
        self._at = 0

    @property
    def is_over(self):
        """Whether all lines were read."""
        return self._at == len(self._rows)

    @property
    def is_block_over(self):
        """Whether the next line is none of the entry or the deed that is read."""
        return self.is_over or self._rows[self._at] == ""

    @property
    def row(self):
        """The next line; the empty text at the end."""
        return "" if self.is_over else self._rows[self._at]

    @property
    def number(self):
        """The number of the next line."""
        return self._at + 1

    def check(self, is_right):
        """Raises BadText for the next line if something about it is not right."""
        if not is_right:
            raise BadText(self.number)

    def go_on(self):
        """Goes behind the next line."""
        self._at += 1

    def read_gap(self):
        """Reads an empty line, where there is a next line."""
        self.check(self.row == "")
        self.go_on()

    def check_over(self):
        """Raises BadText if there is a next line."""
        self.check(self.is_over)

    def begins(self, word):
        """Whether the next line is one of a word and a text."""
        return self.row.startswith(word + ": ")

    def read_text(self, word):
        """Reads a line of a word and a text; the text."""
        self.check(self.begins(word))
        text = self.row[len(word) + 2:]
        self.go_on()
        return text

    def read_entry(self, word):
        """Reads an entry, of which the first line begins with a word."""
        name = self.row[len(word) + 2:]
        self.check(self.begins(word) and read_name(name) is not None)
        self.go_on()
        attributes = {}
        last = ""
        while not self.is_block_over:
            one, _, value = self.row.partition(": ")
            self.check(is_word(one) and value != "" and (one == last or one not in attributes))
            attributes.setdefault(one, []).append(value)
            last = one
            self.go_on()
        return Entry.of(name, {key: tuple(attributes[key]) for key in attributes})


def read_blocks(text, read_block):
    """What a function reads of the lines of a text, block by block, with an empty line between two."""
    lines = Lines(text)
    if text == "":
        return ()
    blocks = [read_block(lines)]
    while not lines.is_over:
        lines.read_gap()
        blocks.append(read_block(lines))
    return tuple(blocks)
