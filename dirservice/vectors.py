"""Vectors: how many changes of each replica are known."""

from dirservice.errors import BadVector
from dirservice.hosts import is_host
from dirservice.words import is_count


def check_vector(value):
    """Raises BadVector for what is no vector."""
    if not isinstance(value, dict) or not all([is_host(word) and is_count(value[word]) for word in value]):
        raise BadVector(value)


def check_vectors(values):
    """Raises BadVector for what is no tuple of vectors, with the first member that is none."""
    if not isinstance(values, tuple):
        raise BadVector(values)
    for value in values:
        check_vector(value)


def counts(vector, change):
    """Whether a vector counts a change."""
    return change.number <= vector.get(change.stamp[1], 0)
