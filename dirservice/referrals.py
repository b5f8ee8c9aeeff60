"""Entries of referral, which stand for parts of other directories."""

from dirservice.errors import Referral
from dirservice.leaves import MAX_LEAVES
from dirservice.names import Name


def is_referral(entry):
    """Whether an entry that follows the rules belongs to `referral`."""
    # No class has `referral` above it.
    return "referral" in entry["kind"]


def referral_over(table, path):
    """The entry of referral whose name a path is or is below; None if there is none."""
    for depth in range(1, len(path) + 1):
        entry = table.get(path[:depth])
        if entry is not None and is_referral(entry):
            return entry
    return None


def check_referral(table, name, path):
    """Raises Referral with the targets for a name if a path is, or is below, the name of an entry of referral."""
    referral = referral_over(table, path)
    if referral is not None:
        raise Referral(targets_of(referral, name))


def targets_of(referral, name):
    """The targets of an entry of referral for its own name or for one below it."""
    targets = []
    for value in referral["ref"]:
        host, _, text = value.partition("/")
        there = Name(text)
        if name.depth - referral.name.depth + there.depth <= MAX_LEAVES:
            targets.append(host + "/" + name.moved(referral.name, there).text)
    return tuple(targets)
