"""What several test files need."""

from dirservice.entries import Entry
from dirservice.schemas import Attribute, ObjectClass, Schema


def outcome(function, *arguments, **options):
    """What a call returns; for an error its class's name and its attributes."""
    try:
        return function(*arguments, **options)
    except Exception as error:
        return (type(error).__name__, vars(error))


def words_of(count, text="x"):
    """That many different words, ascending."""
    letters = "abcdefghijklmnopqrstuvwxyz"
    return [text + letters[place // 26] + letters[place % 26] for place in range(count)]


ATTRIBUTES = (
    Attribute("cn"),
    Attribute("ou"),
    Attribute("code", "exact"),
    Attribute("age", "integer", single=True),
    Attribute("luck", "integer"),
    Attribute("open", "truth"),
    Attribute("boss", "name", tracked=True),
    Attribute("team", "name", mirror="boss"),
    Attribute("link", "name"),
    Attribute("mail"),
)

CLASSES = (
    ObjectClass("top", role="abstract", may=("code",), under=()),
    ObjectClass("unit", must=("ou",), may=("mail",)),
    ObjectClass("thing", role="abstract", may=("link", "luck"), under=("unit",)),
    ObjectClass("person", above="thing", must=("cn",), may=("age", "boss", "team", "open", "code")),
    ObjectClass("chief", above="person", must=("mail",), under=("unit", "person", "chief")),
    ObjectClass("guest", above="person"),
    ObjectClass("never", above="top", may=("cn",)),
    ObjectClass("tag", role="auxiliary", must=("luck",)),
    ObjectClass("label", role="auxiliary", above="tag", may=("mail",)),
)


def schema():
    """A schema with all that the tests need."""
    return Schema(ATTRIBUTES, CLASSES)


def unit(**others):
    """An entry of the class unit that follows the rules, with other values."""
    return Entry("ou=a", kind=("unit",), ou=("a",)).with_values(**others)


def person(**others):
    """An entry of the class person that follows the rules below a unit, with other values."""
    return Entry("cn=Ann,ou=a", kind=("person",), cn=("Ann",)).with_values(**others)
