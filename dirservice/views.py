"""What filters ask of an entry."""

from dirservice.values import rank, valid_normal


class View:
    """An entry as filters see it by a schema."""

    def __init__(self, schema, entry):
        self._schema = schema
        self._entry = entry
        self._forms = {}

    @property
    def entry(self):
        """The entry."""
        return self._entry

    def syntax_of(self, word):
        """The syntax of an attribute; None if the schema does not have it."""
        return self._schema.syntax_of(word) if self._schema.has_attribute(word) else None

    def is_there(self, word):
        """Whether the entry has values of an attribute."""
        return word in self._entry

    def forms(self, word):
        """The normal forms of the valid values of an attribute that the schema has."""
        # Kept, since the parts of a filter may ask for the same ones many times.
        if word not in self._forms:
            self._forms[word] = self.read_forms(word)
        return self._forms[word]

    def read_forms(self, word):
        """The normal forms of the valid values of an attribute, worked out."""
        syntax = self._schema.syntax_of(word)
        forms = [valid_normal(syntax, value) for value in self._entry[word]]
        return [form for form in forms if form is not None]

    def ranks(self, word):
        """What the valid values of an attribute are ordered by."""
        syntax = self._schema.syntax_of(word)
        return [rank(syntax, form) for form in self.forms(word)]

    def is_in_class(self, word):
        """Whether the entry belongs to a class; None if the schema does not have it."""
        return word in self._schema.belongs(self._entry) if self._schema.has_class(word) else None
