"""Points [10] and [11] and the classes of dirservice/filters.py: texts, parts, sizes, wrong arguments."""

import unittest

from dirservice.filters import (MAX_LEVELS, MAX_PARTS, All, AtLeast, AtMost, Equal, Filter, Not, Pieces, Present, Some,
                                as_filter, read_filter)
from tests.samples import outcome

A, B, C = Present("a"), Equal("b", "x"), AtLeast("c", "5")
NO_WORDS = ("", "Cn", "c1", "c n", "c-n", "self", "abcdefghijklm", "cn\n", None, True, 5, ("cn",), ["cn"], b"cn")
NO_VALUES = ("\n", "a\nb", None, True, 5, ("a",), ["a"], b"a", {}, A)
NO_FILTERS = ("(a=*)", "", None, True, 5, (), (A,), [A], {}, object(), Filter)


def bad(place):
    return ("BadFilter", {"place": place})


def nested(levels):
    """A filter with that many levels."""
    made = A
    for _ in range(levels - 1):
        made = Not(made)
    return made


class TestTexts(unittest.TestCase):

    def test_constants(self):
        self.assertEqual((MAX_PARTS, MAX_LEVELS), (60, 12))

    def test_each_class_has_its_text(self):
        for made, text in ((All(), "(&)"), (Some(), "(|)"), (All(A), "(&(a=*))"), (Some(A, B), "(|(a=*)(b=x))"),
                           (All(A, Some(), Not(C)), "(&(a=*)(|)(!(c>=5)))"), (Not(A), "(!(a=*))"),
                           (Not(Not(All())), "(!(!(&)))"), (Present("cn"), "(cn=*)"), (Equal("cn", "A b"), "(cn=A b)"),
                           (Equal("cn", "  "), "(cn=  )"), (AtLeast("cn", "<=>"), "(cn>=<=>)"),
                           (AtMost("cn", "&|!"), "(cn<=&|!)"), (Pieces("cn", "a", "b"), "(cn=a*b)"),
                           (Pieces("cn", "", "A", "b", ""), "(cn=*A*b*)"), (Pieces("cn", "a", ""), "(cn=a*)"),
                           (Pieces("cn", "", "a"), "(cn=*a)"), (Pieces("abcdefghijkl", "=", "="), "(abcdefghijkl==*=)")):
            with self.subTest(text):
                self.assertEqual(made.text, text)
                self.assertEqual(str(made), text)
                self.assertIs(type(str(made)), str)

    def test_backslashes(self):
        signs = "a()*\\b"
        written = "a\\(\\)\\*\\\\b"
        for made, text in ((Equal("cn", signs), f"(cn={written})"), (AtLeast("cn", signs), f"(cn>={written})"),
                           (AtMost("cn", signs), f"(cn<={written})"),
                           (Pieces("cn", signs, "*", signs), f"(cn={written}*\\**{written})")):
            self.assertEqual(made.text, text)
            self.assertEqual(read_filter(text), made)
        self.assertEqual(Equal("cn", "*").text, "(cn=\\*)")
        self.assertEqual(Equal("cn", ",+=|&!<> ").text, "(cn=,+=|&!<> )")

    def test_parts_levels_and_sizes(self):
        for made, parts, levels, size in (
                (A, (), 1, 1), (B, (), 1, 1), (C, (), 1, 1), (AtMost("c", "5"), (), 1, 1),
                (Pieces("a", "b", "c", "d"), (), 1, 1), (All(), (), 1, 1), (Some(), (), 1, 1), (Not(B), (B,), 2, 2),
                (All(A), (A,), 2, 2), (Some(C, A, C), (C, A, C), 2, 4), (All(Not(A), B), (Not(A), B), 3, 4),
                (Some(B, All(A, Not(Some()))), (B, All(A, Not(Some()))), 4, 6)):
            with self.subTest(made.text):
                self.assertEqual((made.parts, made.levels, made.size), (parts, levels, size))
                self.assertIs(type(made.parts), tuple)

    def test_direct_subclasses(self):
        for one in (All, Some, Not, Present, Equal, AtLeast, AtMost, Pieces):
            self.assertEqual(one.__bases__, (Filter,))
        self.assertEqual([type(read_filter(text)) for text in
                          ("(&)", "(|)", "(!(&))", "(a=*)", "(a=b)", "(a>=b)", "(a<=b)", "(a=b*)")],
                         [All, Some, Not, Present, Equal, AtLeast, AtMost, Pieces])

    def test_signs(self):
        self.assertEqual(A & B, All(A, B))
        self.assertEqual(A | B, Some(A, B))
        self.assertEqual(-A, Not(A))
        self.assertEqual((A & B & C).text, "(&(&(a=*)(b=x))(c>=5))")
        self.assertEqual((A | -B & C).text, "(|(a=*)(&(!(b=x))(c>=5)))")
        self.assertEqual((type(A & B), type(A | B), type(-A)), (All, Some, Not))
        self.assertEqual(A.text, "(a=*)")

    def test_names_of_parameters(self):
        self.assertEqual(Not(part=A), Not(A))
        self.assertEqual(Present(word="cn"), Present("cn"))
        for one in (Equal, AtLeast, AtMost):
            self.assertEqual(one(value="x", word="cn"), one("cn", "x"))
        self.assertEqual(read_filter(text="(&)"), All())
        self.assertEqual(B.result(entry=None, schema=Nothing()), None)

    def test_equality(self):
        self.assertIs(Equal("a", "b") == read_filter("(a=b)"), True)
        self.assertIs(Equal("a", "b") != Equal("a", "b"), False)
        self.assertIs(All(A, B) == All(A, B), True)
        for one, other in ((Equal("a", "b"), Equal("a", "B")), (Equal("a", "b*c"), Pieces("a", "b", "c")),
                           (Equal("a", "*"), Present("a")), (All(A, B), All(B, A)), (All(), Some()), (A, All(A)),
                           (AtLeast("a", "b"), AtMost("a", "b")), (AtLeast("a", "b"), Equal("a", "b"))):
            self.assertIs(one == other, False)
            self.assertIs(one != other, True)
        for other in ("(a=*)", None, 0, ("a",), object()):
            self.assertIs(A == other, False)
            self.assertIs(other == A, False)


class Nothing:
    """What a filter may ask of a schema without attributes."""

    def has_attribute(self, word):
        return False


class TestWrongArguments(unittest.TestCase):

    def test_parts_that_are_no_filters(self):
        for wrong in NO_FILTERS:
            with self.subTest(wrong):
                for one in (All, Some):
                    self.assertEqual(outcome(one, wrong), bad(0))
                    self.assertEqual(outcome(one, A, wrong, B, wrong), bad(1))
                    self.assertEqual(outcome(one, *[A] * 60, wrong), bad(60))
                self.assertEqual(outcome(Not, wrong), bad(0))
                self.assertEqual(outcome(lambda: A & wrong), bad(1))
                self.assertEqual(outcome(lambda: A | wrong), bad(1))

    def test_words_that_are_none(self):
        for word in NO_WORDS:
            with self.subTest(word):
                self.assertEqual(outcome(Present, word), bad(0))
                for one in (Equal, AtLeast, AtMost):
                    self.assertEqual(outcome(one, word, "x"), bad(0))
                    self.assertEqual(outcome(one, word, ""), bad(0))
                self.assertEqual(outcome(Pieces, word, "x", "y"), bad(0))
                self.assertEqual(outcome(Pieces, word), bad(0))
                self.assertEqual(outcome(Pieces, word, None, "", 5), bad(0))

    def test_values_that_are_none(self):
        for value in NO_VALUES + ("",):
            with self.subTest(value):
                for one in (Equal, AtLeast, AtMost):
                    self.assertEqual(outcome(one, "cn", value), bad(1))
        for value in NO_VALUES:
            with self.subTest(value):
                self.assertEqual(outcome(Pieces, "cn", value), bad(1))
                self.assertEqual(outcome(Pieces, "cn", value, "x"), bad(1))
                self.assertEqual(outcome(Pieces, "cn", "x", value, value), bad(2))
                self.assertEqual(outcome(Pieces, "cn", "", value, ""), bad(2))
                self.assertEqual(outcome(Pieces, "cn", "", "", value), bad(2))
                self.assertEqual(outcome(Pieces, "cn", "", "x", value), bad(3))

    def test_pieces_that_are_empty(self):
        self.assertEqual(outcome(Pieces, "cn", "a", "", "b"), bad(2))
        self.assertEqual(outcome(Pieces, "cn", "", "", ""), bad(2))
        self.assertEqual(outcome(Pieces, "cn", "", "a", "", "", "b"), bad(3))
        self.assertEqual(outcome(Pieces, "cn", "", ""), bad(None))
        self.assertEqual(Pieces("cn", "", "a", "").text, "(cn=*a*)")

    def test_too_few_pieces(self):
        for pieces in ((), ("",), ("a",)):
            self.assertEqual(outcome(Pieces, "cn", *pieces), bad(None))

    def test_values_have_any_length_and_any_words(self):
        self.assertEqual(len(Equal("cn", "x" * 20000).text), 20005)
        self.assertEqual(Present("unknown").text, "(unknown=*)")


class TestLimits(unittest.TestCase):

    def test_parts(self):
        for one in (All, Some):
            self.assertEqual(one(*[A] * 59).size, 60)
            self.assertEqual(outcome(one, *[A] * 60), bad(None))
            self.assertEqual(one(one(*[A] * 28), one(*[A] * 29)).size, 60)
            self.assertEqual(outcome(one, one(*[A] * 29), one(*[A] * 29)), bad(None))
        self.assertEqual(Not(All(*[A] * 58)).size, 60)
        self.assertEqual(outcome(Not, All(*[A] * 59)), bad(None))

    def test_levels(self):
        self.assertEqual(nested(12).levels, 12)
        self.assertEqual(outcome(Not, nested(12)), bad(None))
        for one in (All, Some):
            self.assertEqual(one(A, nested(11)).levels, 12)
            self.assertEqual(outcome(one, A, nested(12)), bad(None))

    def test_signs(self):
        sixty = All(*[A] * 59)
        self.assertEqual(outcome(lambda: sixty & A), bad(None))
        self.assertEqual(outcome(lambda: A | sixty), bad(None))
        self.assertEqual(outcome(lambda: -sixty), bad(None))
        self.assertEqual(outcome(lambda: -nested(12)), bad(None))
        self.assertEqual(outcome(lambda: nested(12) & A), bad(None))
        self.assertEqual(outcome(lambda: A | nested(12)), bad(None))
        made = A
        for _ in range(11):
            made = made & B
        self.assertEqual((made.levels, made.size), (12, 23))
        self.assertEqual(outcome(lambda: made & B), bad(None))
        self.assertEqual((All(*[A] * 57) & A).size, 60)

    def test_wrong_parts_come_before_limits(self):
        self.assertEqual(outcome(All, *[A] * 70, None), bad(70))
        self.assertEqual(outcome(Some, nested(12), "x"), bad(1))


class TestReadFilter(unittest.TestCase):

    def test_texts_are_read_and_written(self):
        for text in ("(&)", "(|)", "(!(|))", "(a=*)", "(a=b)", "(a>=b)", "(a<=b)", "(a=*b)", "(a=b*)", "(a=*b*)",
                     "(a=b*c)", "(a=b*c*d*)", "(a= )", "(a= * )", "(a==)", "(a=>)", "(a=<=)", "(a>==)", "(a>=>)",
                     "(a=\\(\\)\\*\\\\)", "(a=\\**\\*)", "(a>=\\*)", "(&(a=b)(a=b))", "(|(&)(|)(!(a=&|!)))",
                     "(selfx=a)", "(selves=a)", "(sel=a)", "(abcdefghijkl=*)", "(a=x" + "y" * 19990 + ")"):
            with self.subTest(text[:40]):
                self.assertEqual(read_filter(text).text, text)

    def test_values_lose_their_backslashes(self):
        self.assertEqual(read_filter("(a=\\*b\\\\)"), Equal("a", "*b\\"))
        self.assertEqual(read_filter("(a=\\**\\()"), Pieces("a", "*", "("))
        self.assertEqual(read_filter("(a<=\\))"), AtMost("a", ")"))

    def test_values_that_are_no_strings(self):
        for value in (None, True, 5, b"(&)", ["(&)"], ("(&)",), {}, A, object()):
            self.assertEqual(outcome(read_filter, value), bad(None))

    def test_filters_that_are_passed(self):
        self.assertEqual(as_filter(A), A)
        self.assertEqual(as_filter("(a=*)"), A)
        for value in (None, True, 5, b"(&)", ["(&)"], (A,)):
            self.assertEqual(outcome(as_filter, value), bad(None))
        self.assertEqual(outcome(as_filter, "(a"), bad(2))

    def refused(self, place, *texts):
        for text in texts:
            with self.subTest(text):
                self.assertEqual(outcome(read_filter, text), bad(place))

    def test_the_examples(self):
        self.refused(4, "(cn=")
        self.refused(5, "(self=x)")
        self.refused(24, "(!" * 12 + "(")

    def test_beginnings(self):
        self.refused(0, "", "a", ")", " (&)", "&", "\n(&)", "*")
        self.refused(1, "(", "()", "(=a)", "(A=b)", "( a=b)", "((a=b))", "(*)", "(\\a=b)", "(1=b)", "(\n")

    def test_ends(self):
        self.refused(3, "(&)x", "(&))", "(&)(&)", "(&) ", "(&)\n")
        self.refused(5, "(a=b)(c=d)", "(a=b))", "(a=*) ")

    def test_texts_that_end_too_early(self):
        text = "(&(|(a=b\\*)(c>=d))(!(efg=*h*i)))"
        for length in range(len(text)):
            self.refused(length, text[:length])
        self.assertEqual(read_filter(text).text, text)

    def test_words(self):
        self.refused(2, "(a)", "(a*", "(a b=c)", "(a\\=b)", "(aB=c)", "(a1=c)", "(a!=c)", "(a(", "(a~=c)")
        self.refused(13, "(abcdefghijklm=a)", "(abcdefghijkl", "(abcdefghijkl)")
        self.refused(5, "(self>=x)", "(self<=x)", "(self)", "(self=*)", "(self", "(self x=a)")
        self.refused(6, "(selfx)", "(selfx")

    def test_signs_of_comparisons(self):
        self.refused(3, "(a>b)", "(a<b)", "(a>)", "(a<*)", "(a><b)", "(a<>b)", "(a>", "(a<(")
        self.refused(4, "(a>=)", "(a<=)", "(a>=", "(a<=(", "(a>=*)", "(a<=*b)", "(a>=\n)")
        self.refused(5, "(a>=b", "(a>=b*)", "(a<=b(", "(a>=b\n)")

    def test_values(self):
        self.refused(3, "(a=)", "(a=", "(a=(", "(a=\n)", "(a=(b))")
        self.refused(4, "(a=b", "(a=b(", "(a=b\nc)", "(a=\\", "(a=\\a)", "(a=\\", "(a=\\=)", "(a=\\ )", "(a=\\\n)")
        self.refused(5, "(a>=\\b)", "(a<=\\&)", "(a=b\\", "(a=b\\n)", "(a=*\\b)", "(a=b\\,)")

    def test_stars(self):
        self.refused(4, "(a=**)", "(a=**b)", "(a=*", "(a=*(", "(a=*\n)")
        self.refused(5, "(a=b**)", "(a=b**c)", "(a=b*", "(a=b*(", "(a=*b", "(a=*b(")
        self.refused(6, "(a=*b**)", "(a=*b**c)", "(a=b*c", "(a=*b*(")

    def test_rows_and_nots(self):
        self.refused(2, "(&a=b)", "(& (a=b))", "(|a", "(!)", "(!a=b)", "(!!(a=b))", "(&&)", "(||", "(!&)", "(&\n)")
        self.refused(7, "(!(a=b)(c=d))", "(!(a=b) )", "(!(a=b)", "(&(a=b)c=d)", "(|(a=b) (c=d))", "(&(a=b)")
        self.refused(3, "(!()", "(!(", "(&(", "(|((a=b)))")

    def test_sixty_parts_and_sixty_one(self):
        part = "(a=*)"
        for sign in "&|":
            self.assertEqual(read_filter(f"({sign}{part * 59})").size, 60)
            self.refused(2 + 59 * 5, f"({sign}{part * 60})", f"({sign}{part * 59}(", f"({sign}{part * 59}(!")
        self.assertEqual(read_filter(f"(!(&{part * 58}))").size, 60)
        self.refused(4 + 58 * 5, f"(!(&{part * 59}))")
        self.assertEqual(read_filter("(&" + part * 57 + "(!(a=b)))").size, 60)
        self.refused(2 + 58 * 5 + 2, "(&" + part * 58 + "(!(a=b)))")
        self.refused(2 + 58 * 5 + 2, "(&" + part * 58 + "(!")

    def test_twelve_levels_and_thirteen(self):
        for sign in "&|!":
            self.assertEqual(read_filter(f"({sign}" * 11 + "(a=b)" + ")" * 11).levels, 12)
            self.refused(24, f"({sign}" * 12 + "(a=b)" + ")" * 12, f"({sign}" * 12 + "(", f"({sign}" * 12 + "x")
        for sign in "&|":
            self.assertEqual(read_filter(f"({sign}" * 12 + ")" * 12).levels, 12)
        self.refused(24, "(!" * 12, "(!" * 12 + ")")
        self.refused(34, "(&" + "(!" * 10 + "(a=b)" + ")" * 7 + "(")

    def test_places_are_those_that_every_longer_text_has(self):
        """A text up to a place begins a filter, and the place is the same however the text goes on."""
        for text in ("(&(a=b)c", "(a=b*c*", "(self", "(a>", "(!(|(b<=\\"):
            for more in "()*\\&|!=<>az \n":
                told = outcome(read_filter, text + more)
                if isinstance(told, tuple) and told[1]["place"] < len(text) + 1:
                    for end in ("", "x", ")", "((", "\n"):
                        self.assertEqual(outcome(read_filter, text + more + end), told)


if __name__ == "__main__":
    unittest.main()
