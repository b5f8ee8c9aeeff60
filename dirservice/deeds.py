"""The form of deeds."""

from dirservice.entries import Entry
from dirservice.errors import BadDeed


def check_deeds(deeds):
    """Raises BadDeed with the place of the first member that has not the form of a deed."""
    if not isinstance(deeds, tuple):
        raise BadDeed(None)
    for place, deed in enumerate(deeds):
        if not is_deed(deed):
            raise BadDeed(place)


def is_deed(deed):
    """Whether a value of any kind has the form of a deed."""
    if not isinstance(deed, tuple) or len(deed) < 2:
        return False
    if deed[0] == "add":
        return len(deed) == 2 and isinstance(deed[1], Entry)
    if not isinstance(deed[1], str):
        return False
    if deed[0] == "delete":
        return len(deed) == 2
    if deed[0] == "modify":
        return len(deed) == 3 and isinstance(deed[2], tuple)
    return deed[0] == "rename" and len(deed) == 5 and has_new_name(deed)


def has_new_name(deed):
    """Whether the last three members of a deed are those of a rename."""
    leaf, under, keep = deed[2:]
    return isinstance(leaf, str) and (under is None or isinstance(under, str)) and isinstance(keep, bool)
