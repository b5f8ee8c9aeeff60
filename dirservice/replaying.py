"""Replaying: the entries that come of the changes of a replica, and the reasons of its conflicts.

Here an entry stands under its relative name alone, since the names above it may still change, and its tracked values
are stand-ins for marks. So it can be checked and changed like an entry of a directory.
"""

from dirservice.changes import form_in, incremented_values, with_leaf_values, with_word
from dirservice.drafts import check_between
from dirservice.entries import Entry
from dirservice.errors import BadValue, HasChildren, Invalid
from dirservice.leaves import MAX_LEAVES, MAX_PAIRS
from dirservice.marks import mark_text, stand_in
from dirservice.names import Name
from dirservice.referrals import is_referral
from dirservice.rules import missing_words
from dirservice.tracking import tracked_words


class Replay:
    """The entries after the changes that were replayed so far, by their marks."""

    def __init__(self, schema):
        self._schema = schema
        self._tracked = tracked_words(schema)
        self._entries = {}
        self._above = {}
        # The marks again, by the mark above (None for top entries) and the normal text of the relative name.
        self._places = {}
        self._conflicts = ()

    @property
    def conflicts(self):
        """The pairs of a stamp and a reason."""
        return self._conflicts

    def twin(self):
        """Another one with the same entries, which goes on apart."""
        other = Replay(self._schema)
        other._entries = {mark: self._entries[mark] for mark in self._entries}
        other._above = {mark: self._above[mark] for mark in self._above}
        other._places = {place: self._places[place] for place in self._places}
        other._conflicts = self._conflicts
        return other

    def replay(self, change):
        """Replays a change that comes behind all those that were replayed."""
        reason = self.do(change.stamp, change.deed)
        if reason is not None:
            self._conflicts = self._conflicts + ((change.stamp, reason),)

    def do(self, stamp, deed):
        """Does the deed of a change with a stamp; the reason of a conflict, or None."""
        if deed[0] == "add":
            return self.add_entry(stamp, deed)
        if deed[1] not in self._entries:
            return "entry"
        if deed[0] == "delete":
            return self.delete(deed[1])
        return self.modify(deed) if deed[0] == "modify" else self.rename(stamp, deed)

    def add_entry(self, stamp, deed):
        """Adds an entry, of which the stamp is the mark."""
        _, above, leaf, attributes = deed
        if not self.may_be_above(above):
            return "parent"
        if len(self.line_of(above)) + 1 > MAX_LEAVES:
            return "deep"
        name = self.free_leaf(stamp, stamp, above, Name(leaf))
        if name is None:
            return "name"
        entry = Entry.of(name, {word: self.known_values(word, values, stamp) for word, values in attributes})
        return self.settle(stamp, stamp, above, entry, name.text != leaf)

    def delete(self, mark):
        """Deletes an entry."""
        if self.entries_below(mark):
            return "children"
        left = self.entries_without(mark)
        for other in left:
            if missing_words(self._schema, left[other]):
                return "rule"
        for other in left:
            self._entries[other] = left[other]
        place = self.place_of(mark)
        del self._places[place]
        del self._above[mark]
        del self._entries[mark]
        return None

    def modify(self, deed):
        """Does changes to an entry."""
        _, mark, changes = deed
        entry = self._entries[mark]
        try:
            for sign, word, given in changes:
                known = self.known_values(word, given, mark)
                values = replayed_values(self._schema, entry[word], (sign, word, known), given == ())
                entry = with_word(entry, word, values)
        except BadValue:
            return "rule"
        if self.breaks_rule(mark, self._above[mark], entry):
            return "rule"
        self._entries[mark] = entry
        return None

    def rename(self, stamp, deed):
        """Gives an entry another relative name, and perhaps another entry above."""
        _, mark, leaf, above, keep = deed
        if above == ():
            above = self._above[mark]
        elif not self.may_be_above(above):
            return "parent"
        if mark in self.line_of(above):
            return "inside"
        if len(self.line_of(above)) + self.height_of(mark) > MAX_LEAVES:
            return "deep"
        name = self.free_leaf(stamp, mark, above, Name(leaf))
        if name is None:
            return "name"
        entry = with_leaf_values(self._schema, self._entries[mark], name, keep).renamed(name)
        return self.settle(stamp, mark, above, entry, name.text != leaf)

    def settle(self, stamp, mark, above, entry, is_twice):
        """Puts an entry at its place, with a value of `dup` if its name was there already."""
        if is_twice:
            entry = entry.with_values(dup=(mark_text(stamp),))
        if self.breaks_rule(mark, above, entry):
            return "rule"
        if mark in self._entries:
            place = self.place_of(mark)
            del self._places[place]
        self._entries[mark] = entry
        self._above[mark] = above
        self._places[self.place_of(mark)] = mark
        return "dup" if is_twice else None

    def breaks_rule(self, mark, above, entry):
        """Whether an entry breaks a rule below another one, or one of those below it does."""
        # Rule 10 holds, since values for marks that are not there are left out.
        try:
            check_between(self._schema, entry, self._entries.get(above), self.entries_below(mark))
        except (Invalid, HasChildren):
            return True
        return False

    def may_be_above(self, mark):
        """Whether entries may be put below the one with a mark; None is above top entries."""
        return mark is None or (mark in self._entries and not is_referral(self._entries[mark]))

    def place_of(self, mark):
        """The key of an entry among the places."""
        return self._above[mark], self._entries[mark].name.normal

    def line_of(self, mark):
        """The marks of an entry and of all above it; none for None."""
        line = []
        while mark is not None:
            line.append(mark)
            mark = self._above[mark]
        return line

    def entries_below(self, mark):
        """The entries straight below one, which need not be there yet."""
        return [self._entries[other] for other in self._above if self._above[other] == mark]

    def height_of(self, mark):
        """The greatest number of relative names that an entry and those below it have from it on."""
        level = {mark: True}
        height = 0
        while level:
            height += 1
            level = {other: True for other in self._above if self._above[other] in level}
        return height

    def free_leaf(self, stamp, mark, above, leaf):
        """The relative name, a Name, that an entry gets below another one; None if there is none for it."""
        if self.is_free(mark, above, leaf):
            return leaf
        if len(leaf.pairs) == MAX_PAIRS or "dup" in [word for word, _ in leaf.pairs]:
            return None
        other = Name(f"{leaf.text}+dup={mark_text(stamp)}")
        return other if self.is_free(mark, above, other) else None

    def is_free(self, mark, above, leaf):
        """Whether no other entry has a relative name below an entry."""
        return self._places.get((above, leaf.normal), mark) == mark

    def known_values(self, word, values, own):
        """Values as entries have them here: of tracked ones those whose marks are there, or are the own one."""
        if word not in self._tracked:
            return values
        return tuple([stand_in(mark) for mark in values if mark == own or mark in self._entries])

    def entries_without(self, mark):
        """All other entries that have a mark among their values, by their marks, without it."""
        gone = stand_in(mark)
        left = {}
        for other in self._entries:
            entry = self._entries[other]
            words = [word for word in self._tracked if gone in entry[word]]
            if words and other != mark:
                values = {word: tuple([value for value in entry[word] if value != gone]) for word in words}
                left[other] = entry.with_values(**values)
        return left

    def text_of(self, mark):
        """The text of the name of the entry with a mark; None if there is none."""
        if mark not in self._entries:
            return None
        return ",".join([self._entries[one].name.text for one in self.line_of(mark)])

    def named_entries(self):
        """The entries under their names, with the names that they name, by their marks."""
        texts = {mark: self.text_of(mark) for mark in self._entries}
        shown = {stand_in(mark): texts[mark] for mark in texts}
        return {mark: with_texts(self._entries[mark], texts[mark], self._tracked, shown) for mark in texts}


def with_texts(entry, text, tracked, shown):
    """An entry under a name, with what a dict tells in place of its tracked values."""
    values = {word: tuple([shown[value] for value in entry[word]]) for word in tracked if word in entry}
    return entry.with_values(**values).renamed(text)


def replayed_values(schema, values, change, is_empty):
    """The values of an attribute after a change; is_empty tells whether it had no values itself."""
    sign, word, given = change
    if sign == "replace":
        return given
    if sign == "increment":
        return incremented_values(schema, word, values, given) if values else values
    if sign == "add":
        return values + other_values(schema, word, given, values)
    return () if is_empty else other_values(schema, word, values, given)


def other_values(schema, word, values, known):
    """Those values that equal none of some known ones."""
    forms = [form_in(schema, word, value) for value in known]
    return tuple([value for value in values if form_in(schema, word, value) not in forms])
