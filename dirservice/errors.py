"""The errors, in three families."""


class Invalid(ValueError):
    """A value, an entry or a text that is not as it must be."""


class Conflict(LookupError):
    """Something that does not fit what is there."""


class Excess(ArithmeticError):
    """More than a limit lets through."""


class BadName(Invalid):
    """What should be a name, or a relative name, is none."""

    def __init__(self, given):
        self.given = given


class BadFilter(Invalid):
    """What should be a filter is none."""

    def __init__(self, place):
        self.place = place


class BadScope(Invalid):
    """What should be a scope is none."""

    def __init__(self, given):
        self.given = given


class BadNumber(Invalid):
    """What should be an integer of at least 1 is none."""

    def __init__(self, given):
        self.given = given


class BadSchema(Invalid):
    """A definition of a schema is wrong."""

    def __init__(self, part, place):
        self.part = part
        self.place = place


class BadEntry(Invalid):
    """What should be an entry, or one of its attributes, is none."""

    def __init__(self, given):
        self.given = given


class BadDeed(Invalid):
    """What should be a deed is none."""

    def __init__(self, place):
        self.place = place


class BadChange(Invalid):
    """What should be a change is none."""

    def __init__(self, place):
        self.place = place


class BadVector(Invalid):
    """What should be a vector is none."""

    def __init__(self, given):
        self.given = given


class BadIndex(Invalid):
    """What should be an index is none, or not possible."""

    def __init__(self, given):
        self.given = given


class BadText(Invalid):
    """A line of a text cannot stand there."""

    def __init__(self, line):
        self.line = line


class BadHost(Invalid):
    """What should be a host is none."""

    def __init__(self, given):
        self.given = given


class BadValue(Invalid):
    """A value is not valid."""

    def __init__(self, attribute, item):
        self.attribute = attribute
        self.item = item


class UnknownAttribute(Invalid):
    """The schema has no such attribute."""

    def __init__(self, attribute):
        self.attribute = attribute


class MirrorGiven(Invalid):
    """An entry has values of a mirror."""

    def __init__(self, attribute):
        self.attribute = attribute


class UnknownClass(Invalid):
    """The schema has no such class."""

    def __init__(self, given):
        self.given = given


class BadClasses(Invalid):
    """An entry has no structural class."""


class NotAllowed(Invalid):
    """An attribute may not be there."""

    def __init__(self, attribute):
        self.attribute = attribute


class Missing(Invalid):
    """An attribute must be there and is not."""

    def __init__(self, attribute):
        self.attribute = attribute


class TooManyValues(Invalid):
    """An attribute has more values than it may have."""

    def __init__(self, attribute):
        self.attribute = attribute


class ValueTaken(Invalid):
    """An equal value is there already."""

    def __init__(self, attribute, item):
        self.attribute = attribute
        self.item = item


class NotNamed(Invalid):
    """An entry has no such value as its relative name tells."""

    def __init__(self, attribute):
        self.attribute = attribute


class BadPlace(Invalid):
    """An entry may not stand at its place."""

    def __init__(self, given):
        self.given = given


class NoTarget(Invalid):
    """A value names no entry."""

    def __init__(self, attribute, item):
        self.attribute = attribute
        self.item = item


class NotInteger(Invalid):
    """An attribute has another syntax than integer."""

    def __init__(self, attribute):
        self.attribute = attribute


class NoOrder(Invalid):
    """The values of an attribute have no order."""

    def __init__(self, attribute):
        self.attribute = attribute


class NoEntry(Conflict):
    """There is no entry with a name."""

    def __init__(self, missing, matched):
        self.missing = missing
        self.matched = matched


class NameTaken(Conflict):
    """Another entry has a name, or it is empty."""

    def __init__(self, given):
        self.given = given


class HasChildren(Conflict):
    """There are entries below an entry."""

    def __init__(self, given):
        self.given = given


class InUse(Conflict):
    """Another entry must keep a value that would disappear."""

    def __init__(self, holder):
        self.holder = holder


class Inside(Conflict):
    """An entry cannot stand below itself."""

    def __init__(self, given):
        self.given = given


class NoValue(Conflict):
    """A value is not there."""

    def __init__(self, attribute, item):
        self.attribute = attribute
        self.item = item


class Referral(Conflict):
    """Other directories have what was asked for."""

    def __init__(self, targets):
        self.targets = targets


class IndexTaken(Conflict):
    """There is such an index already."""

    def __init__(self, given):
        self.given = given


class NoIndex(Conflict):
    """There is no such index."""

    def __init__(self, given):
        self.given = given


class NothingToUndo(Conflict):
    """No unit is left that could be undone."""


class NoHost(Conflict):
    """No directory has this host."""

    def __init__(self, host):
        self.host = host


class Gap(Conflict):
    """Changes of a replica are left out."""

    def __init__(self, host):
        self.host = host


class Behind(Conflict):
    """A vector counts changes that a replica lacks."""

    def __init__(self, host):
        self.host = host


class Forgotten(Conflict):
    """Changes of a replica were trimmed."""

    def __init__(self, host):
        self.host = host


class PagingOver(Conflict):
    """No entry is left."""


class Full(Excess):
    """There are as many entries as there may be."""

    def __init__(self, limit):
        self.limit = limit


class TooDeep(Excess):
    """A name would have more relative names than it may have."""

    def __init__(self, limit):
        self.limit = limit


class SizeLimit(Excess):
    """More entries are found than were asked for."""

    def __init__(self, limit):
        self.limit = limit
