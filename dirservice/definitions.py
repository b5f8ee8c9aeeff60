"""Which definitions of attributes and classes are right beside the others of their schema."""

from dirservice.values import SYNTAXES
from dirservice.words import is_key, is_word

ROLES = ("abstract", "structural", "auxiliary")


def is_attribute_right(one, taken, tracked):
    """Whether an Attribute is right, beside the words that are taken and those of tracked attributes."""
    if not is_word(one.word) or one.word in taken:
        return False
    if one.syntax not in SYNTAXES:
        return False
    if not isinstance(one.single, bool) or not isinstance(one.tracked, bool):
        return False
    if one.mirror is not None:
        return is_mirror_right(one, tracked)
    return one.syntax == "name" or not one.tracked


def is_mirror_right(one, tracked):
    """Whether an Attribute that is the mirror of another one is right as a mirror."""
    if one.syntax != "name" or one.single or one.tracked:
        return False
    return isinstance(one.mirror, str) and one.mirror in tracked


def is_class_right(one, earlier, attributes):
    """Whether an ObjectClass is right, beside the earlier ones and all Attributes, two dicts by words."""
    if not is_word(one.word) or one.word == "referral" or one.word in earlier:
        return False
    if one.role not in ROLES or not is_above_right(one, earlier):
        return False
    return is_under_right(one, earlier) and are_members_right(one, attributes)


def is_above_right(one, earlier):
    """Whether the class above an ObjectClass is there and fits."""
    if one.above is None:
        return True
    return is_key(one.above, earlier) and earlier[one.above].role in (one.role, "abstract")


def is_under_right(one, earlier):
    """Whether all classes under which an ObjectClass may stand are there."""
    if one.under is None:
        return True
    if not isinstance(one.under, tuple):
        return False
    return all([word == one.word or is_key(word, earlier) for word in one.under])


def are_members_right(one, attributes):
    """Whether the attributes of an ObjectClass are there, each once."""
    if not isinstance(one.must, tuple) or not isinstance(one.may, tuple):
        return False
    words = one.must + one.may
    if not all([is_key(word, attributes) for word in words]):
        return False
    if len(set(words)) < len(words):
        return False
    return all([attributes[word].mirror is None for word in one.must])
