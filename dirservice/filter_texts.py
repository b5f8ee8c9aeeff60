"""How the texts of filters are written and read.

What is read is a tree of tuples, of which dirservice.filters makes filters: ("&", trees), ("|", trees),
("!", (tree,)), and (sign, word, pieces) for comparisons, the sign "=", ">=" or "<=".
"""

from dirservice.errors import BadFilter
from dirservice.words import LETTERS, MAX_WORD, is_word

ESCAPED = "()*\\"
# What ends a piece: the empty string stands for the end of the text.
PIECE_ENDS = ("", "(", ")", "*", "\n")


def written(value):
    """The text that stands for a value or a piece."""
    return "".join(["\\" + sign if sign in ESCAPED else sign for sign in value])


class FilterReader:
    """A text of a filter, and the place up to which it was read."""

    def __init__(self, text, most_parts, most_levels):
        self._text = text
        self._at = 0
        self._left = most_parts
        self._most_levels = most_levels

    def next_sign(self):
        """The next character; the empty string at the end."""
        return self._text[self._at:self._at + 1]

    def take(self, signs):
        """The next character, behind which reading goes on if it is one of some."""
        sign = self.next_sign()
        if sign == "" or sign not in signs:
            raise BadFilter(self._at)
        self._at += 1
        return sign

    def read_whole(self):
        """The tree of the filter of which this is the whole text."""
        tree = self.read_part(1)
        if self.next_sign() != "":
            raise BadFilter(self._at)
        return tree

    def read_part(self, level):
        """The tree of the filter that begins here, at a level that counts from 1."""
        if level > self._most_levels or self._left == 0:
            raise BadFilter(self._at)
        self._left -= 1
        self.take("(")
        sign = self.next_sign()
        if sign in ("&", "|"):
            tree = (self.take(sign), self.read_parts(level + 1))
        elif sign == "!":
            tree = (self.take(sign), (self.read_part(level + 1),))
        else:
            tree = self.read_comparison()
        self.take(")")
        return tree

    def read_parts(self, level):
        """The trees of the filters that stand here side by side."""
        trees = []
        while self.next_sign() == "(":
            trees.append(self.read_part(level))
        return tuple(trees)

    def read_comparison(self):
        """The sign of a comparison, its word and its pieces."""
        word = self.read_word()
        sign = self.take("=><")
        if sign == "=":
            return sign, word, self.read_pieces()
        return sign + self.take("="), word, (self.read_value(),)

    def read_word(self):
        """The word that begins here."""
        start = self._at
        while self._at - start < MAX_WORD and self.next_sign() != "" and self.next_sign() in LETTERS:
            self._at += 1
        word = self._text[start:self._at]
        # One more letter might make a word of `self`, but nothing else.
        if not is_word(word):
            raise BadFilter(self._at)
        return word

    def read_piece(self):
        """The value or the empty piece that begins here."""
        signs = []
        while self.next_sign() not in PIECE_ENDS:
            if self.next_sign() == "\\":
                self._at += 1
                signs.append(self.take(ESCAPED))
            else:
                signs.append(self.next_sign())
                self._at += 1
        return "".join(signs)

    def read_value(self):
        """The value that begins here."""
        value = self.read_piece()
        if value == "":
            raise BadFilter(self._at)
        return value

    def read_pieces(self):
        """The pieces that stand here, a single one if there is no star."""
        pieces = [self.read_piece()]
        while self.next_sign() == "*":
            # Only the first piece may be empty if another star follows.
            if len(pieces) > 1 and pieces[-1] == "":
                raise BadFilter(self._at)
            self._at += 1
            pieces.append(self.read_piece())
        if pieces == [""]:
            raise BadFilter(self._at)
        return tuple(pieces)
