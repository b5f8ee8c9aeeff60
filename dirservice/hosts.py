"""Hosts, and the references to directories at hosts."""

from dirservice.values import read_name
from dirservice.words import is_word

MAX_HOST = 8


def is_host(value):
    """Whether a value of any kind is a host."""
    return is_word(value) and len(value) <= MAX_HOST


def is_reference(value):
    """Whether a value may be one of the attribute `ref`: a host, perhaps with "/" and the text of a name."""
    # Without "/" the text of the name is empty, and so one of a name.
    host, _, text = value.partition("/")
    return is_host(host) and read_name(text) is not None
