"""Point [25] and the interface of dirservice/indexes.py."""

import random
import unittest

from dirservice.directories import Directory
from dirservice.entries import Entry
from dirservice.filters import All, AtLeast, Equal, Not, Pieces, Present, Some, read_filter
from dirservice.indexes import INDEXES, add_index, candidates, drop_index
from tests.samples import outcome
from tests.trees import ATTRIBUTES, TreeTest, given, names_of, person, tree, tree_schema, unit

ANN, BOB, CID = "cn=Ann,ou=A", "cn=Bob,ou=A", "cn=Cid,ou=B,ou=A"
SYNTAXES = {**{one.word: one.syntax for one in ATTRIBUTES}, "kind": "exact", "ref": "exact", "dup": "exact"}
NO_FILTERS = (None, True, 5, b"(cn=*)", ("(cn=*)",), ["(cn=*)"], {}, object(), All)


def possible(syntax):
    """The indexes that attributes of a syntax may have."""
    return {"text": INDEXES, "exact": INDEXES, "integer": INDEXES[:3], "truth": INDEXES[:2], "name": INDEXES[:2]}[syntax]


def all_indexes(directory):
    """Puts up all indexes that are possible."""
    for word, syntax in SYNTAXES.items():
        for index in possible(syntax):
            add_index(directory, word, index)
    return directory


class TestAddAndDrop(TreeTest):

    def test_constants(self):
        self.assertEqual(INDEXES, ("present", "equal", "order", "pieces"))

    def test_indexes_are_put_up_and_taken_away(self):
        directory = tree()
        self.assertIsNone(add_index(directory, "ou", "pieces"))
        self.assertIsNone(add_index(directory=directory, word="cn", index="present"))
        self.assertIsNone(add_index(directory, "cn", "equal"))
        self.assertIsNone(add_index(directory, "age", "order"))
        self.assertEqual(directory.indexes, (("age", "order"), ("cn", "equal"), ("cn", "present"), ("ou", "pieces")))
        self.assertIsNone(drop_index(directory, "cn", "equal"))
        self.assertIsNone(drop_index(index="pieces", word="ou", directory=directory))
        self.assertEqual(directory.indexes, (("age", "order"), ("cn", "present")))
        add_index(directory, "cn", "equal")
        self.assertEqual(directory.indexes, (("age", "order"), ("cn", "equal"), ("cn", "present")))
        self.assertEqual(directory.undoable, 0)

    def test_which_are_possible(self):
        for word, syntax in SYNTAXES.items():
            for index in INDEXES:
                with self.subTest(word, index=index):
                    directory = tree()
                    told = outcome(add_index, directory, word, index)
                    if index in possible(syntax):
                        self.assertIsNone(told)
                        self.assertEqual(directory.indexes, ((word, index),))
                    else:
                        self.assertEqual(told, given("BadIndex", index))
                        self.assertEqual(directory.indexes, ())

    def test_wrong_arguments_of_add_index(self):
        directory = tree()
        add_index(directory, "cn", "equal")
        for word in ("none", "", "person", "CN", None, True, 5, ("cn",), ["cn"], {}, b"cn"):
            for index in ("equal", "none", None, []):
                self.assertEqual(outcome(add_index, directory, word, index), ("UnknownAttribute", {"attribute": word}))
        for index in ("none", "", "Equal", "pieces ", None, True, 0, ("equal",), ["equal"], {}, b"equal"):
            self.assertEqual(outcome(add_index, directory, "cn", index), given("BadIndex", index))
        self.assertEqual(outcome(add_index, directory, "cn", "equal"), given("IndexTaken", ("cn", "equal")))
        self.assertEqual(directory.indexes, (("cn", "equal"),))

    def test_wrong_arguments_of_drop_index(self):
        directory = tree()
        add_index(directory, "cn", "equal")
        for word in ("none", "CN", "ou", None, 5, ["cn"], {}):
            self.assertEqual(outcome(drop_index, directory, word, "equal"), given("NoIndex", (word, "equal")))
        for index in ("none", "present", None, 5, ["equal"], {}):
            self.assertEqual(outcome(drop_index, directory, "cn", index), given("NoIndex", ("cn", index)))
        self.assertEqual(directory.indexes, (("cn", "equal"),))
        drop_index(directory, "cn", "equal")
        self.assertEqual(outcome(drop_index, directory, "cn", "equal"), given("NoIndex", ("cn", "equal")))


class Candidates(TreeTest):

    def setUp(self):
        self.directory = tree()

    def known(self, text, *expected):
        with self.subTest(text):
            self.assertEqual(candidates(self.directory, text), expected)
            self.assertEqual(candidates(directory=self.directory, wanted=read_filter(text)), expected)

    def unknown(self, *texts):
        for text in texts:
            with self.subTest(text):
                self.assertIsNone(candidates(self.directory, text))
                self.assertIsNone(candidates(self.directory, read_filter(text)))


class TestComparisons(Candidates):

    def test_filters_that_are_none(self):
        for wanted in NO_FILTERS:
            self.assertEqual(outcome(candidates, self.directory, wanted), ("BadFilter", {"place": None}))
        self.assertEqual(outcome(candidates, self.directory, "(cn=a"), ("BadFilter", {"place": 5}))
        self.assertEqual(outcome(candidates, all_indexes(tree()), ""), ("BadFilter", {"place": 0}))

    def test_each_comparison_has_its_index(self):
        rows = {"present": ("(cn=*)",), "equal": ("(cn=ann)",), "order": ("(cn>=b)", "(cn<=b)"), "pieces": ("(cn=*ann*)",)}
        for index in INDEXES:
            self.directory = tree()
            add_index(self.directory, "cn", index)
            for other, texts in rows.items():
                for text in texts:
                    told = candidates(self.directory, text)
                    self.assertEqual(told is None, other != index, (index, text))
            drop_index(self.directory, "cn", index)
            self.unknown(*rows[index])

    def test_without_indexes_all_is_unknown(self):
        self.unknown("(cn=*)", "(cn=Ann)", "(cn>=a)", "(cn<=a)", "(cn=*ann*)", "(none=*)", "(kind=person)", "(!(cn=*))", "(&)")
        add_index(self.directory, "ou", "equal")
        self.unknown("(cn=ann)", "(ou=*)", "(ou>=a)", "(ou=abc*)")

    def test_present(self):
        add_index(self.directory, "mail", "present")
        add_index(self.directory, "boss", "present")
        add_index(self.directory, "open", "present")
        self.known("(mail=*)", CID)
        self.known("(boss=*)", BOB, CID)
        self.known("(open=*)")

    def test_equal(self):
        for word in ("cn", "luck", "boss", "mail"):
            add_index(self.directory, word, "equal")
        self.known("(cn= ANN )", ANN)
        self.known("(luck=-4)", BOB)
        self.known("(mail=two  TOO)", CID)
        self.known("(boss=cn=ANN,ou=a)", BOB, CID)
        self.known("(cn=nobody)")
        # A comparison that is undefined is true for no entry.
        self.known("(luck=x)")
        self.known("(boss=no name)")

    def test_order(self):
        for word in ("cn", "luck", "age"):
            add_index(self.directory, word, "order")
        self.known("(cn>=b)", BOB, CID)
        self.known("(cn<=BOB)", ANN, BOB)
        self.known("(luck>=3)", BOB)
        self.known("(luck>=10)")
        self.known("(age<=100)", ANN)
        self.known("(age<=x)")

    def test_pieces(self):
        directory = self.directory
        for word, value in (("mail", "The  Quick fox"), ("mail", "other"), ("code", "The  Quick")):
            directory.modify(BOB, (("add", word, (value,)),))
        add_index(directory, "mail", "pieces")
        add_index(directory, "code", "pieces")
        self.known("(mail=*quick*)", BOB)
        self.known("(mail=*QUICK FOX)", BOB)
        self.known("(mail=the   qu*)", BOB)
        self.known("(mail=*two*too*)", CID)
        self.known("(mail=*too*two*)", CID)
        self.known("(mail=*e q*i*)", BOB)
        # Not in the same value, nor at the place where the piece stands.
        self.known("(mail=quick*other)", BOB)
        self.known("(mail=*abc*quick*)")
        self.known("(mail=quack*)")
        self.known("(mail=*two  x*)")
        self.known("(mail=o t*)", CID)
        self.known("(code=*Quick)", BOB)
        self.known("(code=*quick)")
        self.known("(code=*e  Q*)", BOB)
        self.known("(code=*e Q*)")
        # All rows of three must occur, though the piece itself does not.
        directory.modify(CID, (("add", "mail", ("abcd", "bcde")),))
        self.known("(mail=*abcde*)", CID)
        self.known("(mail=*abcdf*)")

    def test_pieces_of_fewer_than_three_characters(self):
        add_index(self.directory, "cn", "pieces")
        add_index(self.directory, "code", "pieces")
        self.unknown("(cn=a*)", "(cn=*nn)", "(cn=*a*n*n*)", "(cn=an*nn)", "(cn=*a *)", "(cn=a   *)", "(cn=*    *)")
        self.known("(cn=an*nn*ann)", ANN)
        self.known("(cn=a  n*)")
        self.known("(code=*    *)")
        self.unknown("(code=*  *)")

    def test_kind(self):
        for index in INDEXES:
            add_index(self.directory, "kind", index)
        self.known("(kind=person)", ANN, BOB, CID)
        self.known("(kind=deputy)", CID)
        self.known("(kind=thing)", ANN, BOB, CID)
        self.known("(kind=unit)", "ou=A", "ou=B,ou=A", "ou=Z")
        self.known("(kind=none)")
        self.known("(kind=*)", *names_of(self.directory))
        self.known("(kind>=person)", "ou=A", ANN, BOB, "ou=B,ou=A", "ou=Z")
        self.known("(kind=per*)", ANN, BOB)
        self.known("(kind=*put*)", CID)

    def test_mirrors(self):
        for index in ("present", "equal"):
            add_index(self.directory, "team", index)
        self.known("(team=*)", ANN, BOB)
        self.known("(team=cn=CID,ou=b,ou=A)", ANN, BOB)
        self.known("(team=cn=bob,ou=a)", ANN)
        self.known("(team=cn=ann,ou=a)")
        self.unknown("(crew=*)", "(team>=x)", "(team=cn=*)")

    def test_the_empty_directory(self):
        self.directory = all_indexes(Directory(tree_schema()))
        for text in ("(cn=*)", "(cn=a)", "(cn>=a)", "(cn=abc*)", "(&(cn=a))", "(|(cn=a)(cn=abc*))", "(|)", "(kind=unit)"):
            self.known(text)
        self.unknown("(cn=ab*)", "(&)", "(!(cn=a))")


class TestRows(Candidates):

    def setUp(self):
        self.directory = tree()
        for word, index in (("cn", "equal"), ("boss", "present"), ("luck", "order"), ("kind", "equal"), ("cn", "pieces")):
            add_index(self.directory, word, index)

    def test_all(self):
        self.known("(&(boss=*)(cn=bob))", BOB)
        self.known("(&(kind=person)(boss=*))", BOB, CID)
        self.known("(&(kind=person)(boss=*)(luck>=0))", BOB)
        self.known("(&(cn=ann)(boss=*))")
        self.known("(&(boss=*))", BOB, CID)
        # Parts that are unknown are left out.
        self.known("(&(age=30)(boss=*)(!(cn=bob)))", BOB, CID)
        self.known("(&(mail=*)(&(mail=*)(cn=cid)))", CID)
        self.unknown("(&)", "(&(mail=*))", "(&(mail=*)(!(cn=bob)))", "(&(&))", "(&(cn=a*)(&(cn=*b)))")

    def test_some(self):
        self.known("(|(cn=ann)(luck>=0))", ANN, BOB)
        self.known("(|(luck>=0)(cn=ann)(cn=ann))", ANN, BOB)
        self.known("(|)")
        self.known("(|(cn=nobody))")
        self.known("(|(|)(cn=cid))", CID)
        self.unknown("(|(cn=ann)(mail=*))", "(|(mail=*))", "(|(cn=ann)(!(cn=bob)))", "(|(cn=ann)(&))", "(|(&))")

    def test_not(self):
        self.unknown("(!(cn=ann))", "(!(|))", "(!(&))", "(!(!(cn=ann)))")

    def test_rows_in_rows(self):
        self.known("(|(&(boss=*)(mail=*))(cn=ann))", ANN, BOB, CID)
        self.known("(&(|(mail=*)(cn=ann))(|(cn=bob)(cn=cid)))", BOB, CID)
        self.known("(&(|)(mail=*))")
        self.unknown("(|(&(mail=*))(cn=ann))")

    def test_filters_are_taken_as_they_are_passed(self):
        for text in ("(!(!(cn=ann)))", "(|(cn=ann)(!(&)))", "(&(mail=*)(!(&)))"):
            self.unknown(text)
            self.assertIsNotNone(candidates(self.directory, read_filter(text).simplified()))

    def test_classes_and_signs(self):
        self.assertEqual(candidates(self.directory, Present("boss") & Equal("cn", "bob")), (BOB,))
        self.assertEqual(candidates(self.directory, Equal("cn", "ann") | AtLeast("luck", "0")), (ANN, BOB))
        self.assertIsNone(candidates(self.directory, -Equal("cn", "ann")))


class TestState(Candidates):

    TEXTS = ("(cn=bob)", "(boss=*)", "(team=*)", "(kind=unit)", "(mail=*two*)", "(luck>=0)", "(boss=cn=ann,ou=a)", "(ou=*new*)")

    def check(self, directory):
        """The candidates are those of a new directory with these entries."""
        entries = tuple(directory.walk())
        units = [("add", entry) for entry in entries]
        other = all_indexes(Directory(tree_schema()))
        other.apply(tuple(units))
        for text in self.TEXTS:
            with self.subTest(text):
                told = candidates(directory, text)
                self.assertEqual(told, candidates(other, text))
                wanted = read_filter(text)
                true = tuple(one for one in names_of(directory) if wanted.result(directory.schema, directory[one]) is True)
                self.assertEqual(told, true)

    def test_indexes_before_and_after_the_entries(self):
        self.check(all_indexes(tree()))

    def test_after_each_deed_and_undo(self):
        directory = all_indexes(tree())
        for word, arguments in (("add_entry", (unit("ou=New", boss=("ou=a",)),)), ("modify", (CID, (("delete", "mail", ()),))),
                                ("rename", (BOB, "cn=Rob")), ("rename", ("ou=a", "ou=Newer")), ("delete", ("cn=ann,ou=newer",)),
                                ("apply", ((("delete", "ou=z"), ("add", unit("ou=z,ou=new"))),)), ("undo", ()), ("undo", ()),
                                ("undo", ()), ("undo", ()), ("undo", ()), ("undo", ())):
            getattr(directory, word)(*arguments)
            self.check(directory)

    def test_after_an_attempt(self):
        directory = all_indexes(tree())
        directory.delete("ou=z")

        def change(same):
            same.delete("cn=ann,ou=a")
            self.check(same)
            same.undo()
            same.undo()
            self.check(same)
            for word, index in same.indexes:
                drop_index(same, word, index)
            same.rename(BOB, "cn=Rob")
            self.assertIsNone(candidates(same, "(cn=bob)"))

        directory.attempt(change)
        self.check(directory)
        self.assertEqual(candidates(directory, "(cn=bob)"), (BOB,))

    def test_an_index_that_an_attempt_puts_up(self):
        self.assertEqual(self.directory.attempt(lambda same: (add_index(same, "cn", "equal"), candidates(same, "(cn=ann)"))[1]),
                         (ANN,))
        self.unknown("(cn=ann)")


class TestFacts(Candidates):

    def part(self, chance, levels):
        """A filter at random."""
        kind = chance.randint(0, 8 if levels > 1 else 5)
        if kind < 6:
            word = chance.choice(("cn", "luck", "boss", "team", "kind", "mail", "none"))
            value = chance.choice(("ann", "Bob", "3", "-4", "cn=Ann,ou=A", CID, "person", "unit", "two  too", "one"))
            if kind == 5:
                return Pieces(word, chance.choice(("", value[:3], value)), value[1:4] or "x", chance.choice(("", value[-3:])))
            return (Present(word), Equal(word, value), AtLeast(word, value), Equal(word, value), Equal("cn", value))[kind]
        if kind == 6:
            return Not(self.part(chance, levels - 1))
        parts = [self.part(chance, levels - 1) for _ in range(chance.randint(0, 3))]
        return All(*parts) if kind == 7 else Some(*parts)

    def test_each_entry_for_which_a_filter_is_true_is_a_candidate(self):
        chance = random.Random(11)
        known = 0
        for directory in (all_indexes(tree()), tree()):
            if not directory.indexes:
                for word, index in (("cn", "equal"), ("boss", "present"), ("team", "equal"), ("mail", "pieces")):
                    add_index(directory, word, index)
            entries = [directory[name] for name in names_of(directory)]
            for _ in range(600):
                wanted = self.part(chance, 4)
                told = candidates(directory, wanted)
                if told is not None:
                    known += 1
                    self.assertEqual(list(told), [name for name in names_of(directory) if name in told])
                    for entry in entries:
                        if wanted.result(directory.schema, entry) is True:
                            self.assertIn(entry.name.text, told, wanted.text)
        self.assertGreater(known, 300)

    def test_equality_of_directories_knows_no_indexes(self):
        self.assertEqual(all_indexes(tree()), tree())

    def test_arguments_stay(self):
        entry = person("cn=x,ou=A", boss=("ou=a",))
        self.directory.add_entry(entry)
        add_index(self.directory, "team", "present")
        self.known("(team=*)", "ou=A", ANN, BOB)
        self.assertEqual(entry, Entry("cn=x,ou=A", kind=("person",), cn=("x",), boss=("ou=a",)))


if __name__ == "__main__":
    unittest.main()
