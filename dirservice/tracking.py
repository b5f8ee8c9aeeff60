"""Tracked attributes and their mirrors."""


def tracked_words(schema):
    """The ascending words of the tracked attributes."""
    return sorted([one.word for one in schema.attributes if one.tracked])


def mirrored_texts(schema, table):
    """The texts of the names that name each other one, by the word of the mirror and the text that is named.

    The table is one between units: in the order of names, and each tracked value is the very text of a name.
    """
    found = {}
    for mirror in schema.attributes:
        if mirror.mirror is not None:
            for path in table:
                for value in table[path][mirror.mirror]:
                    found.setdefault((mirror.word, value), []).append(table[path].name.text)
    return found


def with_mirrors(schema, entry, texts):
    """An entry with the values of mirrors that the texts of mirrored_texts tell."""
    words = [one.word for one in schema.attributes if one.mirror is not None]
    there = [word for word in words if (word, entry.name.text) in texts]
    mirrors = {word: tuple(texts[word, entry.name.text]) for word in there}
    return entry.with_values(**mirrors) if mirrors else entry
