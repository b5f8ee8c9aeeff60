"""How the values of an entry change."""

from dirservice.entries import are_values
from dirservice.errors import BadChange, BadValue, NoValue, NotInteger, ValueTaken
from dirservice.values import MAX_DIGITS, form, is_valid
from dirservice.words import is_word

WITH_VALUES = ("add", "delete", "replace")


def check_changes(changes):
    """Raises BadChange with the place of the first member that has not the form of a change."""
    if not isinstance(changes, tuple):
        raise BadChange(None)
    for place, change in enumerate(changes):
        if not is_change(change):
            raise BadChange(place)


def is_change(change):
    """Whether a value of any kind has the form of a change."""
    if not isinstance(change, tuple) or len(change) != 3 or not is_word(change[1]):
        return False
    if change[0] == "increment":
        return is_step(change[2])
    return change[0] in WITH_VALUES and are_values(change[2])


def is_step(value):
    """Whether a value of any kind is an integer that can be added."""
    return isinstance(value, int) and not isinstance(value, bool) and len(str(abs(value))) <= MAX_DIGITS


def changed_entry(schema, entry, changes):
    """The entry after changes that are done one after the other."""
    for change in changes:
        entry = with_word(entry, change[1], changed_values(schema, entry, change))
    return entry


def with_word(entry, word, values):
    """The entry with other values of one attribute."""
    attributes = {word: tuple(values)}
    return entry.with_values(**attributes)


def changed_values(schema, entry, change):
    """The values of the attribute of a change after it."""
    sign, word, given = change
    if sign == "add":
        return added_values(schema, word, entry[word], given)
    if sign == "delete":
        return deleted_values(schema, word, entry[word], given)
    if sign == "increment":
        return incremented_values(schema, word, entry[word], given)
    return given


def form_in(schema, word, value):
    """What is the same for values that are equal as values of an attribute, which the schema may not have."""
    return form(schema.syntax_of(word), value) if schema.has_attribute(word) else value


def added_values(schema, word, values, given):
    """Values, and behind them given ones that were not there."""
    forms = [form_in(schema, word, value) for value in values]
    for value in given:
        if form_in(schema, word, value) in forms:
            raise ValueTaken(word, value)
        forms.append(form_in(schema, word, value))
    return values + given


def deleted_values(schema, word, values, given):
    """Values without those that equal given ones; none of them if none are given."""
    if not given:
        if not values:
            raise NoValue(word, "")
        return ()
    left = [(form_in(schema, word, value), value) for value in values]
    for value in given:
        gone = form_in(schema, word, value)
        if gone not in [one for one, _ in left]:
            raise NoValue(word, value)
        left = [(one, other) for one, other in left if one != gone]
    return [other for _, other in left]


def incremented_values(schema, word, values, step):
    """Values with an integer added to each one."""
    if schema.syntax_of(word) != "integer":
        raise NotInteger(word)
    if not values:
        raise NoValue(word, "")
    return [incremented(word, value, step) for value in values]


def incremented(word, value, step):
    """A value with an integer added."""
    if not is_valid("integer", value):
        raise BadValue(word, value)
    total = str(int(value) + step)
    if not is_valid("integer", total):
        raise BadValue(word, total)
    return total


def with_leaf_values(schema, entry, leaf, keep):
    """The entry with the values of a new relative name and, unless they are kept, without those of its own one."""
    new = {word: form_in(schema, word, value) for word, value in leaf.pairs}
    if not keep:
        entry = without_leaf_values(schema, entry, new)
    for word, value in leaf.pairs:
        if new[word] not in [form_in(schema, word, other) for other in entry[word]]:
            entry = with_word(entry, word, entry[word] + (value,))
    return entry


def without_leaf_values(schema, entry, kept):
    """The entry without the values of its own relative name, but for those with the forms of a dict by words."""
    for word, value in entry.name.pairs:
        gone = form_in(schema, word, value)
        if word not in kept or kept[word] != gone:
            left = [other for other in entry[word] if form_in(schema, word, other) != gone]
            entry = with_word(entry, word, left)
    return entry
