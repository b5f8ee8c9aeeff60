"""How the texts of names and of relative names are built.

Here a value is any string: dirservice.values says which ones are valid.
"""

from dirservice.words import fold, is_word

MAX_PAIRS = 4
MAX_LEAVES = 12
ESCAPED = ",+=\\"


def split_at(text, mark):
    """The parts of a text between the marks that have no backslash before them."""
    # Most texts have no backslash, and then this is much faster.
    if "\\" not in text:
        return text.split(mark)
    parts = []
    start = 0
    at = 0
    while at < len(text):
        if text[at] == "\\":
            # The character behind a backslash is never a mark.
            at += 1
        elif text[at] == mark:
            parts.append(text[start:at])
            start = at + 1
        at += 1
    parts.append(text[start:])
    return parts


def without_backslashes(text):
    """The value for which a text stands."""
    if "\\" not in text:
        return text
    signs = []
    at = 0
    while at < len(text):
        if text[at] == "\\":
            at += 1
        signs.append(text[at:at + 1])
        at += 1
    return "".join(signs)


def with_backslashes(value):
    """The text that stands for a value."""
    signs = ["\\" + sign if sign in ESCAPED else sign for sign in value]
    if value.startswith(" "):
        signs[0] = "\\ "
    if value.endswith(" "):
        signs[-1] = "\\ "
    return "".join(signs)


def split_pair(text):
    """The word and the value of a pair with this text; None if it is not built like one."""
    word, _, written = text.partition("=")
    value = without_backslashes(written)
    # Each value has one text only: others miss a backslash, or have one too many.
    if not is_word(word) or with_backslashes(value) != written:
        return None
    return word, value


def split_leaf(text):
    """The pairs of a relative name with this text; None if it is not built like one."""
    pairs = [split_pair(part) for part in split_at(text, "+")]
    if len(pairs) > MAX_PAIRS or None in pairs:
        return None
    if len(set([word for word, _ in pairs])) < len(pairs):
        return None
    return tuple(pairs)


def split_name(text):
    """The relative names, as tuples of pairs, of a name with this text; None if it is not built like one."""
    if text == "":
        return ()
    leaves = [split_leaf(part) for part in split_at(text, ",")]
    if len(leaves) > MAX_LEAVES or None in leaves:
        return None
    return tuple(leaves)


def leaf_text(pairs):
    """The text of the relative name with these pairs."""
    return "+".join([word + "=" + with_backslashes(value) for word, value in pairs])


def normal_leaf(pairs):
    """The normal text of the relative name with these pairs."""
    return leaf_text(sorted([(word, fold(value)) for word, value in pairs]))


def join_names(below, above):
    """The text of a name of which one text tells the first relative names and another one the last."""
    return ",".join([text for text in (below, above) if text != ""])
