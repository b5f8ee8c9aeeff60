"""The rules that an entry must follow, as far as the entry and the one above it tell."""

from dirservice.errors import BadClasses, BadPlace, BadValue, Missing, MirrorGiven, NotAllowed, NotNamed
from dirservice.errors import TooManyValues, UnknownClass, ValueTaken
from dirservice.hosts import is_reference
from dirservice.values import are_equal, valid_normal

MAX_VALUES = 20


def check_rules(schema, entry, above):
    """Raises the error of the first of the rules 1 to 8 that an entry breaks below another one, or None."""
    check_known(schema, entry)
    check_kinds(schema, entry)
    check_allowed(schema, entry)
    check_required(schema, entry)
    check_counts(schema, entry)
    for word in entry.words:
        check_values(schema.syntax_of(word), word, entry[word])
    check_leaf(schema, entry)
    check_place(schema, entry, above)


def check_known(schema, entry):
    """Rule 1: all attributes are known, and none is a mirror."""
    for word in entry.words:
        # What is asked raises UnknownAttribute itself.
        if schema.mirror_of(word) is not None:
            raise MirrorGiven(word)


def check_kinds(schema, entry):
    """Rule 2: the listed classes are known, and one of them is the structural class."""
    if "kind" not in entry:
        raise UnknownClass("")
    # What is asked raises UnknownClass itself.
    if structural_class(schema, entry) is None:
        raise BadClasses()


def structural_class(schema, entry):
    """The word of the listed structural class that has all others above it, or None."""
    listed = [word for word in entry["kind"] if schema.class_of(word).role == "structural"]
    for word in listed:
        above = schema.classes_above(word)
        if all([other in above for other in listed]):
            return word
    return None


def check_allowed(schema, entry):
    """Rule 3: all attributes may be there."""
    allowed = schema.allowed(entry)
    for word in entry.words:
        if word not in allowed:
            raise NotAllowed(word)


def check_required(schema, entry):
    """Rule 4: all attributes that must be there are there."""
    missing = missing_words(schema, entry)
    if missing:
        raise Missing(missing[0])


def missing_words(schema, entry):
    """The words of the attributes that must be there and are not."""
    return [word for word in schema.required(entry) if word not in entry]


def check_counts(schema, entry):
    """Rule 5: no attribute has too many values."""
    for word in entry.words:
        most = 1 if schema.is_single(word) else MAX_VALUES
        if len(entry[word]) > most:
            raise TooManyValues(word)


def check_values(syntax, word, values):
    """Rule 6 for one attribute: its values are valid, and no two of them are equal."""
    forms = []
    for value in values:
        form = valid_normal(syntax, value)
        if form is None or (word == "ref" and not is_reference(value)):
            raise BadValue(word, value)
        if form in forms:
            raise ValueTaken(word, value)
        forms.append(form)


def check_leaf(schema, entry):
    """Rule 7: the entry has the values of its relative name."""
    for word, value in entry.name.pairs:
        if not has_leaf_value(schema, entry, word, value):
            raise NotNamed(word)


def has_leaf_value(schema, entry, word, value):
    """Whether the attribute of a pair of the relative name may stand there and has an equal value."""
    # By rule 1, what the entry has is in the schema and no mirror.
    if word not in entry or schema.is_tracked(word):
        return False
    syntax = schema.syntax_of(word)
    return any([are_equal(syntax, value, other) for other in entry[word]])


def check_place(schema, entry, above):
    """Rule 8: the entry stands below one of a class under which its structural class may stand."""
    under = classes_under(schema, structural_class(schema, entry))
    if under is None:
        return
    if above is None or not any([word in under for word in schema.belongs(above)]):
        raise BadPlace(entry.name.text)


def classes_under(schema, structural):
    """The tuple `under` of a class or of the nearest class above it that has one; None if none has."""
    for word in schema.classes_above(structural):
        under = schema.class_of(word).under
        if under is not None:
            return under
    return None
