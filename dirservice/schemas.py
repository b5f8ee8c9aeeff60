"""Schemas: which classes of entries there are, and which attributes they have."""

from dirservice.definitions import is_attribute_right, is_class_right
from dirservice.errors import BadSchema, UnknownAttribute, UnknownClass
from dirservice.rules import check_rules
from dirservice.words import is_key


class Attribute:
    """The definition of an attribute. Nothing is checked here."""

    def __init__(self, word, syntax="text", *, single=False, tracked=False, mirror=None):
        self._word = word
        self._syntax = syntax
        self._single = single
        self._tracked = tracked
        self._mirror = mirror

    @property
    def word(self):
        """The word of the attribute."""
        return self._word

    @property
    def syntax(self):
        """The syntax of its values."""
        return self._syntax

    @property
    def single(self):
        """Whether an entry has at most one value of it."""
        return self._single

    @property
    def tracked(self):
        """Whether its values are names of entries and follow these."""
        return self._tracked

    @property
    def mirror(self):
        """The word of the tracked attribute of which it is the mirror, or None."""
        return self._mirror


class ObjectClass:
    """The definition of a class of entries. Nothing is checked here."""

    def __init__(self, word, *, role="structural", above=None, must=(), may=(), under=None):
        self._word = word
        self._role = role
        self._above = above
        self._must = must
        self._may = may
        self._under = under

    @property
    def word(self):
        """The word of the class."""
        return self._word

    @property
    def role(self):
        """Its role: abstract, structural or auxiliary."""
        return self._role

    @property
    def above(self):
        """The word of the class above it, or None."""
        return self._above

    @property
    def must(self):
        """The words of the attributes that its entries must have."""
        return self._must

    @property
    def may(self):
        """The words of the attributes that its entries may have."""
        return self._may

    @property
    def under(self):
        """The words of the classes under which its entries may stand, or None."""
        return self._under


class Schema:
    """The definitions of attributes and classes, and those that every schema has."""

    def __init__(self, attributes, classes):
        check_attributes(attributes)
        table = attribute_table(attributes)
        check_classes(classes, table)
        self._attributes = attributes
        self._classes = classes
        self._attribute_table = table
        self._class_table = class_table(classes, table)
        self._facts = (
            tuple([attribute_facts(one) for one in attributes]),
            tuple([class_facts(one) for one in classes]),
        )

    @property
    def attributes(self):
        """The tuple of the definitions of attributes that it was given."""
        return self._attributes

    @property
    def classes(self):
        """The tuple of the definitions of classes that it was given."""
        return self._classes

    def attribute_of(self, word):
        """The definition of an attribute; UnknownAttribute for every other value."""
        if not self.has_attribute(word):
            raise UnknownAttribute(word)
        return self._attribute_table[word]

    def class_of(self, word):
        """The definition of a class; UnknownClass for every other value."""
        if not self.has_class(word):
            raise UnknownClass(word)
        return self._class_table[word]

    def has_attribute(self, word):
        """Whether a value of any kind is the word of an attribute."""
        return is_key(word, self._attribute_table)

    def has_class(self, word):
        """Whether a value of any kind is the word of a class."""
        return is_key(word, self._class_table)

    def syntax_of(self, word):
        """The syntax of an attribute."""
        return self.attribute_of(word).syntax

    def is_single(self, word):
        """Whether an attribute has at most one value in an entry."""
        return self.attribute_of(word).single

    def is_tracked(self, word):
        """Whether the values of an attribute follow the entries that they name."""
        return self.attribute_of(word).tracked

    def mirror_of(self, word):
        """The word of the tracked attribute of which an attribute is the mirror, or None."""
        return self.attribute_of(word).mirror

    def classes_above(self, word):
        """The words of a class and of all classes above it, the nearest first."""
        words = [self.class_of(word).word]
        above = self.class_of(word).above
        while above is not None:
            words.append(above)
            above = self.class_of(above).above
        return tuple(words)

    def belongs(self, entry):
        """The ascending words of all classes to which an entry belongs."""
        words = []
        for word in entry["kind"]:
            if word in self._class_table:
                words.extend(self.classes_above(word))
        return tuple(sorted(set(words)))

    def required(self, entry):
        """The ascending words of the attributes that an entry of its classes must have."""
        words = ["kind"]
        for word in self.belongs(entry):
            words.extend(self.class_of(word).must)
        return tuple(sorted(set(words)))

    def allowed(self, entry):
        """The ascending words of the attributes that an entry of its classes may have, without mirrors."""
        words = list(self.required(entry)) + ["dup"]
        for word in self.belongs(entry):
            words.extend(self.class_of(word).may)
        return tuple(sorted(set([word for word in words if self.mirror_of(word) is None])))

    def check(self, entry, above=None):
        """Raises the error of the first of the rules 1 to 8 that an entry breaks below another one."""
        check_rules(self, entry, above)

    def __eq__(self, other):
        return isinstance(other, Schema) and self._facts == other._facts


def own_attributes():
    """The attributes that every schema has besides its definitions."""
    return (Attribute("kind", "exact"), Attribute("ref", "exact"), Attribute("dup", "exact", single=True))


def attribute_table(attributes):
    """All attributes of a schema by their words."""
    return {one.word: one for one in attributes + own_attributes()}


def class_table(classes, attributes):
    """All classes of a schema with these attributes by their words."""
    # Mirrors are not left out here, but where it is asked what an entry may have.
    referral = ObjectClass("referral", must=("ref",), may=tuple(attributes))
    return {one.word: one for one in (referral, *classes)}


def check_attributes(attributes):
    """Raises BadSchema if a definition of an attribute is wrong."""
    if not isinstance(attributes, tuple):
        raise BadSchema("attributes", None)
    tracked = [one.word for one in attributes if isinstance(one, Attribute) and one.tracked is True]
    taken = [one.word for one in own_attributes()]
    for place, one in enumerate(attributes):
        if not isinstance(one, Attribute) or not is_attribute_right(one, taken, tracked):
            raise BadSchema("attributes", place)
        taken.append(one.word)


def check_classes(classes, attributes):
    """Raises BadSchema if a definition of a class is wrong beside these attributes."""
    if not isinstance(classes, tuple):
        raise BadSchema("classes", None)
    earlier = {}
    for place, one in enumerate(classes):
        if not isinstance(one, ObjectClass) or not is_class_right(one, earlier, attributes):
            raise BadSchema("classes", place)
        earlier[one.word] = one


def attribute_facts(one):
    """All that makes an Attribute equal to another one."""
    return one.word, one.syntax, one.single, one.tracked, one.mirror


def class_facts(one):
    """All that makes an ObjectClass equal to another one."""
    return one.word, one.role, one.above, one.must, one.may, one.under
