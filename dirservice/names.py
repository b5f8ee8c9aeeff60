"""The names of entries."""

from dirservice.errors import BadName
from dirservice.leaves import join_names, leaf_text
from dirservice.values import normal_leaves, read_name


def is_leaf(text):
    """Whether a value of any kind is the text of a relative name."""
    leaves = read_name(text)
    return leaves is not None and len(leaves) == 1


def as_name(given):
    """The name that a Name or a text gives."""
    if isinstance(given, Name):
        return given
    return Name(given)


def path_of(given):
    """The path of the name that a value of any kind gives; None if it gives none."""
    if isinstance(given, Name):
        return given.path
    leaves = read_name(given)
    return None if leaves is None else normal_leaves(leaves)[::-1]


class Name:
    """A row of relative names, that of the entry itself first."""

    def __init__(self, text=""):
        leaves = read_name(text)
        if leaves is None:
            raise BadName(text)
        self._text = text
        self._leaves = leaves
        self._normals = normal_leaves(leaves)

    @classmethod
    def of(cls, *leaves):
        """The name with the relative names of these texts."""
        for leaf in leaves:
            if not is_leaf(leaf):
                raise BadName(leaf)
        return cls(",".join(leaves))

    @property
    def text(self):
        """The text, as it was given."""
        return self._text

    @property
    def normal(self):
        """The normal text."""
        return ",".join(self._normals)

    @property
    def path(self):
        """The normal texts of its relative names, the last one first: what names are ordered by."""
        return self._normals[::-1]

    @property
    def leaf(self):
        """The text of its own relative name."""
        return leaf_text(self.pairs)

    @property
    def parent(self):
        """The name above it; the empty name for the empty name."""
        return Name(self._text[len(self.leaf) + 1:])

    @property
    def pairs(self):
        """The pairs of word and value of its own relative name."""
        return self._leaves[0] if self._leaves else ()

    @property
    def depth(self):
        """The number of its relative names."""
        return len(self._leaves)

    def child(self, leaf):
        """The name straight below with this relative name."""
        if not is_leaf(leaf):
            raise BadName(leaf)
        return Name(join_names(leaf, self._text))

    def moved(self, old, new):
        """The name with new in place of old at its end, or itself if old is not there."""
        if self not in old:
            return self
        own = self._leaves[:self.depth - old.depth]
        return Name(join_names(",".join([leaf_text(pairs) for pairs in own]), new.text))

    def comes_before(self, other):
        """Whether it is ordered before another name."""
        return self.path < other.path

    def __contains__(self, x):
        leaves = x._leaves if isinstance(x, Name) else read_name(x)
        if leaves is None or len(leaves) < self.depth:
            return False
        return normal_leaves(leaves[len(leaves) - self.depth:]) == self._normals

    def __eq__(self, other):
        return isinstance(other, Name) and self._normals == other._normals

    def __str__(self):
        return str(self._text)
