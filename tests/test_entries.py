"""The interface of dirservice/entries.py."""

import unittest

from dirservice.entries import Entry
from dirservice.errors import BadEntry, BadName
from dirservice.names import Name

NO_NAMES = ("cn=a, ou=b", "a", " ", ",", "cn=a\n", None, True, 5, ("cn=a",), ["cn=a"], b"cn=a", {})
NO_WORDS = ("", "Cn", "c1", "c n", "c-n", "c_n", "self", "abcdefghijklm", "cn\n", " cn")
NO_VALUES = (None, True, 5, "a", b"a", ["a"], [], {"a": 1}, {}, {"a"}, object(), ("",), ("a", ""), ("a\n",), ("\n",),
             ("a", "b\nc"), (None,), (5,), (True,), ("a", 5), (("a",),), (["a"],), (b"a",), (Name("cn=a"),))


class TestEntry(unittest.TestCase):

    def refused(self, error, given, function, *arguments, **options):
        with self.assertRaises(error) as caught:
            function(*arguments, **options)
        self.assertIs(type(caught.exception.given), type(given))
        self.assertEqual(caught.exception.given, given)

    def test_what_is_told(self):
        for entry in (Entry("cn=A,ou=B", cn=("A", "b"), age=("5",)),
                      Entry(Name("cn=A,ou=B"), cn=("A", "b"), age=("5",), ou=()),
                      Entry(entry_name="cn=A,ou=B", age=("5",), cn=("A", "b")),
                      Entry.of("cn=A,ou=B", {"cn": ("A", "b"), "mail": (), "age": ("5",)}),
                      Entry.of(entry_name=Name("cn=A,ou=B"), attributes={"cn": ("A", "b"), "age": ("5",)})):
            self.assertIs(type(entry.name), Name)
            self.assertEqual(entry.name.text, "cn=A,ou=B")
            self.assertEqual(entry.words, ("age", "cn"))
            self.assertEqual((entry["cn"], entry["age"]), (("A", "b"), ("5",)))

    def test_entries_without_attributes_or_name(self):
        self.assertEqual((Entry("").name.text, Entry("").words), ("", ()))
        self.assertEqual(Entry.of("cn=a", {}).words, ())
        self.assertEqual(Entry("cn=a", cn=()).words, ())

    def test_words_of_parameters_can_be_words_of_attributes(self):
        entry = Entry("cn=a", attributes=("x",), name=("y",), words=("z",), cls=("k",))
        self.assertEqual(entry.words, ("attributes", "cls", "name", "words"))
        self.assertEqual(entry.with_values(attributes=("t",), name=())["attributes"], ("t",))

    def test_values_need_not_be_valid(self):
        for values in ((" ",), ("x" * 61,), ("a", "a"), ("a", "A"), tuple("abcdefghijklmnopqrstuvwxyz")):
            self.assertEqual(Entry("cn=a", cn=values)["cn"], values)

    def test_brackets_and_in(self):
        entry = Entry("cn=A", cn=("A",), ou=())
        for word in ("ou", "age", "", "CN", "cn ", "entry_name", None, 0, True, (), ("cn",), [], ["cn"], {}, b"cn"):
            with self.subTest(word):
                self.assertEqual(entry[word], ())
                self.assertIs(word in entry, False)
        self.assertIs("cn" in entry, True)
        self.assertIs("cn" in Entry("cn=a"), False)

    def test_entries_are_not_iterated(self):
        for function in (iter, list, tuple, sorted):
            with self.assertRaises(TypeError):
                function(Entry("cn=A", cn=("A",)))

    def test_bad_names(self):
        for name in NO_NAMES:
            with self.subTest(name):
                self.refused(BadName, name, Entry, name, cn=("a",))
                self.refused(BadName, name, Entry, name, cn=["a"])
                self.refused(BadName, name, Entry.of, name, {"cn": ("a",)})
                self.refused(BadName, name, Entry.of, name, None)
                self.refused(BadName, name, Entry.of, name, {5: 5})

    def test_bad_words(self):
        for word in NO_WORDS:
            for values in (("a",), (), None):
                with self.subTest(word, values=values):
                    self.refused(BadEntry, word, Entry.of, "cn=a", {word: values})
                    self.refused(BadEntry, word, Entry.of, "cn=a", {"cn": ("a",), word: values, "x y": ()})
                    if word != "self":
                        self.refused(BadEntry, word, Entry, "cn=a", **{"cn": ("a",), word: values, "x y": ()})
                        self.refused(BadEntry, word, Entry("cn=a").with_values, **{word: values})
        for word in (None, True, 5, ("cn",), b"cn", Entry):
            self.refused(BadEntry, word, Entry.of, "cn=a", {word: ("a",)})

    def test_bad_values(self):
        for values in NO_VALUES:
            with self.subTest(values):
                self.refused(BadEntry, "cn", Entry, "cn=a", cn=values)
                self.refused(BadEntry, "cn", Entry.of, "cn=a", {"cn": values})
                self.refused(BadEntry, "cn", Entry("cn=a", cn=("a",)).with_values, cn=values)

    def test_first_bad_word_in_the_order_given(self):
        self.refused(BadEntry, "ou", Entry, "cn=a", cn=("a",), ou=["a"], age=None)
        self.refused(BadEntry, "ou", Entry.of, "cn=a", {"cn": ("a",), "ou": [], "age": None, 5: ()})
        self.refused(BadEntry, 5, Entry.of, "cn=a", {"cn": ("a",), 5: (), "ou": []})
        entry = Entry("cn=a", age=("1",), ou=("a",))
        self.refused(BadEntry, "ou", entry.with_values, cn=(), ou=["a"], age=["a"])

    def test_attributes_that_are_no_dict(self):
        for given in (None, True, 5, "cn", (), [], (("cn", ("a",)),), [("cn", ("a",))], Entry("cn=a")):
            with self.subTest(given):
                self.refused(BadEntry, given, Entry.of, "cn=a", given)

    def test_equality(self):
        one = Entry("cn=A", cn=("A", "b"), ou=("c",))
        self.assertIs(one == Entry("cn=A", ou=("c",), cn=("A", "b"), age=()), True)
        self.assertIs(one != Entry.of("cn=A", {"ou": ("c",), "cn": ("A", "b")}), False)
        for other in (Entry("cn=a", cn=("A", "b"), ou=("c",)), Entry("cn=A", cn=("b", "A"), ou=("c",)),
                      Entry("cn=A", cn=("a", "b"), ou=("c",)), Entry("cn=A", cn=("A", "b")), Entry("cn=A"),
                      Entry("cn=A", cn=("A", "b"), ou=("c",), age=("1",)), Entry("cn=A", cn=("A", "b"), mail=("c",)),
                      Entry("cn=A,ou=x", cn=("A", "b"), ou=("c",)), Entry("cn=A", cn=("A",), ou=("c",))):
            self.assertIs(one == other, False)
            self.assertIs(other == one, False)
            self.assertIs(one != other, True)
        self.assertIs(Entry("a=1+b=2") == Entry("b=2+a=1"), False)

    def test_an_entry_equals_nothing_of_another_kind(self):
        entry = Entry("cn=A", cn=("A",))
        for other in ("cn=A", Name("cn=A"), {"cn": ("A",)}, ("cn=A", {"cn": ("A",)}), None, 0, object()):
            self.assertIs(entry == other, False)
            self.assertIs(other == entry, False)

    def test_with_values(self):
        entry = Entry("cn=A", cn=("A",), ou=("b",), age=("1",))
        changed = entry.with_values(ou=(), cn=("C", "D"), mail=("m",))
        self.assertEqual(changed, Entry("cn=A", cn=("C", "D"), age=("1",), mail=("m",)))
        self.assertEqual(changed.words, ("age", "cn", "mail"))
        self.assertEqual(entry, Entry("cn=A", cn=("A",), ou=("b",), age=("1",)))
        self.assertEqual(entry.with_values(), entry)
        self.assertEqual(entry.with_values(zz=()), entry)

    def test_renamed(self):
        entry = Entry("cn=A", cn=("A",), ou=("b",))
        self.assertEqual(entry.renamed("cn=B,ou=C"), Entry("cn=B,ou=C", cn=("A",), ou=("b",)))
        self.assertEqual(entry.renamed(name=Name("")), Entry("", cn=("A",), ou=("b",)))
        self.assertEqual(entry.name.text, "cn=A")
        for name in NO_NAMES:
            with self.subTest(name):
                self.refused(BadName, name, entry.renamed, name)

    def test_arguments_are_not_changed_and_later_changes_have_no_effect(self):
        given = {"ou": ("b",), "cn": ("A",), "mail": ()}
        entry = Entry.of("cn=A", given)
        self.assertEqual(list(given.items()), [("ou", ("b",)), ("cn", ("A",)), ("mail", ())])
        given["cn"] = ("changed",)
        given["age"] = ("1",)
        del given["ou"]
        self.assertEqual(entry, Entry("cn=A", cn=("A",), ou=("b",)))
        self.assertEqual(entry.words, ("cn", "ou"))


if __name__ == "__main__":
    unittest.main()
