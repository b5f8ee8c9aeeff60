"""Points [10] and [12]: the results of filters, and simplified filters."""

import itertools
import random
import unittest

from dirservice.entries import Entry
from dirservice.filters import All, AtLeast, AtMost, Equal, Not, Pieces, Present, Some, read_filter
from tests.samples import schema
from tests.trees import tree_schema

SCHEMA = schema()
TRUE, FALSE, NONE = Present("cn"), Present("mail"), Present("unknown")
PARTS = {True: TRUE, False: FALSE, None: NONE}
ENTRY = Entry("cn=x", kind=("person", "label"), cn=("Ann  Lee", " bob "), age=("-5",), luck=("10", "9", "007", "x"),
              code=("Ab ", "Q"), open=("TRUE", "true"), boss=("cn=A,ou=B", "no name"), team=("cn=C",),
              link=("a=b+c=d", "cn=\\ x"), wrong=("w",))


class Results(unittest.TestCase):

    def check(self, expected, *texts, entry=ENTRY, rules=SCHEMA):
        for text in texts:
            with self.subTest(text):
                wanted = read_filter(text)
                self.assertIs(wanted.result(rules, entry), expected)
                self.assertIs(wanted.result(schema=rules, entry=entry), expected)
                self.assertIs(wanted.simplified().result(rules, entry), expected)


class TestRows(Results):

    def test_the_parts_have_their_results(self):
        for expected, part in PARTS.items():
            self.assertIs(part.result(SCHEMA, ENTRY), expected)

    def test_all_of_two(self):
        for one, other in itertools.product((True, False, None), repeat=2):
            expected = False if False in (one, other) else None if None in (one, other) else True
            self.assertIs(All(PARTS[one], PARTS[other]).result(SCHEMA, ENTRY), expected)

    def test_some_of_two(self):
        for one, other in itertools.product((True, False, None), repeat=2):
            expected = True if True in (one, other) else None if None in (one, other) else False
            self.assertIs(Some(PARTS[one], PARTS[other]).result(SCHEMA, ENTRY), expected)

    def test_rows_of_none_one_and_three(self):
        self.assertIs(All().result(SCHEMA, ENTRY), True)
        self.assertIs(Some().result(SCHEMA, ENTRY), False)
        for expected, part in PARTS.items():
            self.assertIs(All(part).result(SCHEMA, ENTRY), expected)
            self.assertIs(Some(part).result(SCHEMA, ENTRY), expected)
        self.assertIs(All(NONE, TRUE, FALSE).result(SCHEMA, ENTRY), False)
        self.assertIs(Some(NONE, FALSE, TRUE).result(SCHEMA, ENTRY), True)
        self.assertIs(All(TRUE, NONE, TRUE).result(SCHEMA, ENTRY), None)
        self.assertIs(Some(FALSE, NONE, FALSE).result(SCHEMA, ENTRY), None)

    def test_not(self):
        self.assertIs(Not(TRUE).result(SCHEMA, ENTRY), False)
        self.assertIs(Not(FALSE).result(SCHEMA, ENTRY), True)
        self.assertIs(Not(NONE).result(SCHEMA, ENTRY), None)
        self.assertIs((-(-TRUE)).result(SCHEMA, ENTRY), True)

    def test_rows_in_rows(self):
        self.check(True, "(&(|(cn=*)(mail=*))(!(mail=*)))", "(|(&(cn=*)(mail=*))(!(|(mail=*)(&(mail=*)(unknown=*)))))")
        self.check(None, "(&(cn=*)(|(mail=*)(!(unknown=*))))")


class TestComparisons(Results):

    def test_present(self):
        self.check(True, "(cn=*)", "(kind=*)", "(open=*)", "(boss=*)", "(team=*)", "(age=*)")
        self.check(False, "(mail=*)", "(ou=*)", "(dup=*)", "(ref=*)")
        self.check(None, "(wrong=*)", "(person=*)", "(none=*)")
        # Values that are not valid count.
        only = Entry("cn=x", age=("x",), boss=("no name",), open=("no",), cn=("  ",), code=("x" * 61,))
        self.check(True, "(age=*)", "(boss=*)", "(open=*)", "(cn=*)", "(code=*)", entry=only)
        self.check(False, "(age=5)", "(age>=-5)", "(age<=5)", "(boss=cn=x)", "(open=TRUE)", "(cn=a)", "(cn>=a)",
                   "(cn<=z)", "(cn=* *)", "(code=x*)", "(code>=a)", entry=only)
        self.check(None, "(age=x)", "(boss=no name)", "(open=no)", "(cn=  )", "(code=" + "x" * 61 + ")", entry=only)

    def test_text(self):
        self.check(True, "(cn=ann lee)", "(cn=  ANN    Lee )", "(cn=bob)", "(cn=BOB)", "(cn>=ann lee)", "(cn>=ANN  LEE)",
                   "(cn>=B)", "(cn<=ann lee)", "(cn<=b)", "(cn<=BOB)", "(cn>=bob)", "(cn>= a)")
        self.check(False, "(cn=annlee)", "(cn=b)", "(cn>=boc)", "(cn>=C)", "(cn<=ANN)", "(cn<=a)", "(mail=x)",
                   "(mail>=!)", "(mail<=z)")
        self.check(None, "(cn= )", "(cn>=   )", "(cn<=  )", "(cn=" + "x" * 61 + ")", "(mail= )")

    def test_exact(self):
        self.check(True, "(code=Ab )", "(code=Q)", "(code>=Ab )", "(code>=Q)", "(code<=Ab )", "(code<=B)", "(code>= )")
        self.check(False, "(code=ab )", "(code=Ab)", "(code=q)", "(code>=a)", "(code<=Ab)", "(code<= )")
        self.check(None, "(code=" + "x" * 61 + ")", "(code>=" + "x" * 61 + ")")
        self.check(False, "(code=" + "x" * 60 + ")", "(code= )")

    def test_integer(self):
        self.check(True, "(age=-5)", "(age>=-5)", "(age>=-6)", "(age<=-5)", "(age<=0)", "(luck=10)", "(luck>=10)",
                   "(luck>=9)", "(luck<=9)", "(luck<=80)", "(luck>=-" + "9" * 30 + ")")
        self.check(False, "(age=5)", "(age>=-4)", "(age>=5)", "(age<=-6)", "(luck=7)", "(luck>=11)", "(luck>=80)",
                   "(luck<=8)", "(luck<=7)", "(luck<=0)")
        self.check(None, "(luck=007)", "(luck=x)", "(luck>=x)", "(luck<=007)", "(age=-0)", "(age>= 5)", "(age=+5)",
                   "(age<=" + "9" * 31 + ")", "(age=5*)", "(age=*5)")

    def test_truth(self):
        self.check(True, "(open=TRUE)")
        self.check(False, "(open=FALSE)")
        self.check(None, "(open=true)", "(open=x)", "(open>=TRUE)", "(open<=TRUE)", "(open=T*)", "(open=*E)")

    def test_names(self):
        self.check(True, "(boss=cn=A,ou=B)", "(boss=cn=a,ou=b)", "(link=c=D+a=b)", "(link=cn=\\\\ x)", "(link=cn=x)",
                   "(team=cn=c)", "(team=cn=C)")
        self.check(False, "(boss=cn=A)", "(boss=ou=B)", "(link=c=d)", "(team=cn=A)", "(boss=cn=A\\\\,ou)")
        self.check(None, "(boss=no name)", "(boss=cn=A, ou=B)", "(boss>=cn=A,ou=B)", "(team<=cn=C)", "(boss=cn*)",
                   "(team=*C)", "(link=CN=x)", "(boss=,)")

    def test_mirrors_are_what_the_entry_has(self):
        self.check(False, "(team=*)", "(team=cn=C)", entry=Entry("cn=x", kind=("person",)))

    def test_kind(self):
        for entry in (ENTRY, Entry("", kind=("label", "person"))):
            self.check(True, "(kind=person)", "(kind=thing)", "(kind=label)", "(kind=tag)", "(kind=*)", entry=entry)
            self.check(False, "(kind=unit)", "(kind=chief)", "(kind=referral)", "(kind=top)", entry=entry)
            self.check(None, "(kind=Person)", "(kind=nothing)", "(kind=cn)", "(kind= person)", "(kind=kind)", entry=entry)
        none = Entry("cn=x", kind=("nothing", "unit"))
        self.check(None, "(kind=nothing)", entry=none)
        self.check(True, "(kind=unit)", "(kind=noth*)", "(kind>=unit)", "(kind<=nothing)", entry=none)
        self.check(False, "(kind=person)", entry=none)
        self.check(False, "(kind=person)", "(kind=*)", entry=Entry("cn=x"))
        self.check(True, "(kind=referral)", entry=Entry("ou=x", kind=("referral",)))

    def test_other_comparisons_of_kind_look_at_values(self):
        self.check(True, "(kind>=person)", "(kind<=label)", "(kind=per*)", "(kind=*a*b*)", "(kind=*son)")
        self.check(False, "(kind>=persons)", "(kind<=labe)", "(kind=th*)", "(kind=tag*)",
                   "(kind=*ing)", "(kind=PER*)", "(kind>=tag)")

    def test_unknown_attributes(self):
        self.check(None, "(wrong=w)", "(wrong>=a)", "(wrong<=z)", "(wrong=w*)", "(none=x)", "(none>=x)", "(none=*x)")

    def test_attributes_of_every_schema(self):
        entry = Entry("ou=x", kind=("referral",), ref=("west/ou=x", "East"), dup=("1-west",))
        self.check(True, "(ref=west/ou=x)", "(ref=East)", "(ref=*/*)", "(dup=1-west)", "(dup=1*t)", "(ref>=west)",
                   "(ref<=East)", entry=entry)
        self.check(False, "(ref=WEST/ou=x)", "(ref=east)", "(dup=*W*)", "(ref=a/b/c)", entry=entry)

    def test_the_schema_decides(self):
        entry = Entry("cn=x", age=("007",), mates=("cn=A",))
        self.check(True, "(mates=cn=a)", entry=entry, rules=tree_schema())
        self.check(None, "(mates=cn=a)", "(age=007)", entry=entry)


class TestPieces(Results):

    def texts(self, *values):
        return Entry("cn=x", cn=values, code=values)

    def test_first_and_last_pieces(self):
        entry = self.texts("Ann Lee")
        self.check(True, "(cn=a*e)", "(cn=ann*lee)", "(cn=ann *lee)", "(cn=ann* lee)", "(cn=an*)", "(cn=*ee)",
                   "(cn=ann lee*)", "(cn=*ann lee)", "(cn=A*)", "(cn=*E)", "(cn=ann l*ee)", entry=entry)
        self.check(False, "(cn=n*e)", "(cn=a*l)", "(cn=nn*)", "(cn=*le)", "(cn=b*)", "(cn=*b)", "(cn=ann lee*lee)",
                   "(cn=ann le*ee)", "(cn=ann * lee)", "(cn= ann*)", "(cn=*lee )", entry=entry)

    def test_pieces_between(self):
        entry = self.texts("abcabd")
        self.check(True, "(cn=*b*)", "(cn=*ab*ab*)", "(cn=*a*b*c*a*b*d*)", "(cn=a*c*d)", "(cn=*abcabd*)", "(cn=ab*c*abd)",
                   "(cn=*bc*bd)", "(cn=a*b*d)", "(cn=*abd*)", "(cn=ab*ca*bd)", entry=entry)
        self.check(False, "(cn=*x*)", "(cn=*abc*ca*)", "(cn=*bd*a*)", "(cn=*c*c*)", "(cn=ab*abc*)", "(cn=*abd*d)",
                   "(cn=a*a*a*d)", "(cn=abc*cabd)", "(cn=abca*b*bd)", "(cn=abc*abd*abd)", "(cn=ab*bb*abd)",
                   entry=entry)

    def test_pieces_do_not_overlap(self):
        entry = self.texts("aaa")
        self.check(True, "(cn=a*a)", "(cn=aa*a)", "(cn=a*a*a)", "(cn=*a*a*a*)", "(cn=*aa*a)", "(cn=*aaa*)", entry=entry)
        self.check(False, "(cn=aa*aa)", "(cn=a*aa*a)", "(cn=*a*a*a*a*)", "(cn=aaa*a)", "(cn=*aa*aa*)", "(cn=a*aaa)",
                   "(cn=aaaa*)", entry=entry)

    def test_capital_letters_count_for_exact_alone(self):
        entry = self.texts("aBc")
        self.check(True, "(cn=AB*)", "(cn=*bC)", "(cn=*b*)", "(code=aB*)", "(code=*B*)", "(code=*Bc)", entry=entry)
        self.check(False, "(code=ab*)", "(code=*b*)", "(code=*BC)", "(code=A*)", entry=entry)

    def test_spaces(self):
        entry = self.texts("  a   b  ")
        self.check(True, "(cn=a *b)", "(cn=a   *b)", "(cn=a*     b)", "(cn=* *)", "(cn=*    *)", "(cn=a *)", "(cn=* b)",
                   "(cn=*a  b*)", "(code=  a*)", "(code=*b  )", "(code=*   *)", "(code=* * * *)", entry=entry)
        self.check(False, "(cn= a*)", "(cn=*b )", "(cn=a * b)", "(cn=* a*)", "(cn=*b *)", "(cn=   a*)", "(code=a*)",
                   "(code=*b)", "(code=*a b*)", "(code=*    *)", entry=entry)

    def test_some_value_must_have_all_pieces(self):
        entry = self.texts("abc", "xyz")
        self.check(True, "(cn=a*c)", "(cn=x*z)", "(cn=*y*)", entry=entry)
        self.check(False, "(cn=a*z)", "(cn=*b*y*)", "(cn=x*c)", entry=entry)
        self.check(False, "(cn=a*)", "(code=a*)", entry=Entry("cn=x"))

    def test_pieces_are_never_too_long(self):
        self.check(False, "(cn=" + "x" * 61 + "*)", "(code=*" + "x" * 61 + ")")

    def test_escaped_signs(self):
        entry = self.texts("a*(b)\\c")
        self.check(True, "(cn=*\\**)", "(cn=a\\*\\(*\\)*\\\\*c)", "(code=*\\\\c)", "(cn=a\\*\\(b\\)\\\\c)", entry=entry)
        self.check(False, "(cn=\\**)", "(cn=*\\*)", "(code=*\\)\\)*)", entry=entry)

    def test_against_another_way(self):
        """Pieces fit if the value can be cut so that they stand in it, one after the other."""
        def fits(value, pieces):
            if len(pieces) == 1:
                return value.endswith(pieces[0])
            head, *tail = pieces
            return any(value[at:].startswith(head) and fits(value[at + len(head):], tail) for at in range(len(value) + 1))

        chance = random.Random(5)
        for _ in range(3000):
            value = "".join(chance.choice("ab") for _ in range(chance.randint(1, 7)))
            middle = ["".join(chance.choice("ab") for _ in range(chance.randint(1, 2))) for _ in range(chance.randint(0, 2))]
            ends = [chance.choice(("", "a", "b", "ab")) for _ in range(2)]
            pieces = (ends[0], *middle, ends[1])
            if pieces != ("", ""):
                expected = value.startswith(pieces[0]) and fits(value[len(pieces[0]):], list(pieces[1:]))
                self.assertIs(Pieces("code", *pieces).result(SCHEMA, self.texts(value)), expected, (value, pieces))


class TestSimplified(unittest.TestCase):

    def check(self, text, expected):
        with self.subTest(text):
            made = read_filter(text).simplified()
            self.assertEqual(made.text, expected)
            self.assertEqual(made, read_filter(expected))
            self.assertEqual(made.simplified(), made)

    def test_what_is_simple_already(self):
        for text in ("(a=*)", "(a=b)", "(a>=b)", "(a<=b)", "(a=b*c)", "(&)", "(|)", "(!(a=b))", "(&(a=b)(c=d))",
                     "(|(a=b)(c=d))", "(&(a=b)(|(c=d)(e=f)))", "(|(!(a=b))(&(a=b)(c=d)))", "(!(&(a=b)(c=d)))",
                     "(&(a=b)(a=B))"):
            self.check(text, text)

    def test_two_nots(self):
        self.check("(!(!(a=b)))", "(a=b)")
        self.check("(!(!(!(a=b))))", "(!(a=b))")
        self.check("(!(!(!(!(a=b)))))", "(a=b)")

    def test_not_of_rows_without_parts(self):
        self.check("(!(&))", "(|)")
        self.check("(!(|))", "(&)")
        self.check("(!(!(&)))", "(&)")
        self.check("(!(!(!(|))))", "(&)")

    def test_rows_in_like_rows(self):
        self.check("(&(a=b)(&(c=d)(e=f))(g=h))", "(&(a=b)(c=d)(e=f)(g=h))")
        self.check("(|(|(c=d)(e=f))(a=b))", "(|(c=d)(e=f)(a=b))")
        self.check("(&(a=b)(&))", "(a=b)")
        self.check("(|(|)(a=b)(c=d))", "(|(a=b)(c=d))")
        self.check("(&(&(&(a=b)(c=d))))", "(&(a=b)(c=d))")
        self.check("(&(&))", "(&)")
        self.check("(|(|)(|))", "(|)")

    def test_rows_in_other_rows_stay(self):
        self.check("(&(a=b)(|(a=b)(c=d)))", "(&(a=b)(|(a=b)(c=d)))")

    def test_equal_parts(self):
        self.check("(&(a=b)(c=d)(a=b)(c=d)(e=f))", "(&(a=b)(c=d)(e=f))")
        self.check("(|(c=d)(a=b)(c=d))", "(|(c=d)(a=b))")
        self.check("(|(a=b)(a=b))", "(a=b)")

    def test_parts_that_decide(self):
        self.check("(&(a=b)(|)(c=d))", "(|)")
        self.check("(|(a=b)(&)(c=d))", "(&)")
        self.check("(&(|))", "(|)")
        self.check("(|(&))", "(&)")

    def test_one_part(self):
        self.check("(&(a=b))", "(a=b)")
        self.check("(|(a=b))", "(a=b)")
        self.check("(&(|(a=b)))", "(a=b)")
        self.check("(|(&(a=b)(c=d)))", "(&(a=b)(c=d))")
        self.check("(!(&(a=b)))", "(!(a=b))")

    def test_rules_that_make_others_fit(self):
        self.check("(&(a=b)(&(c=b)(a=b)))", "(&(a=b)(c=b))")
        self.check("(&(a=b)(!(!(a=b))))", "(a=b)")
        self.check("(&(a=b)(!(&)))", "(|)")
        self.check("(|(a=b)(!(|)))", "(&)")
        self.check("(!(&(!(a=b))))", "(a=b)")
        self.check("(!(&(a=b)(!(&))))", "(&)")
        self.check("(&(|(&(a=b)(c=d)))(e=f))", "(&(a=b)(c=d)(e=f))")
        self.check("(|(&(|(a=b)(c=d)))(c=d))", "(|(a=b)(c=d))")
        self.check("(!(|(&)(a=b)))", "(|)")
        self.check("(&(!(!(&(a=b)(c=d))))(c=d))", "(&(a=b)(c=d))")
        self.check("(|(&(a=b)(|))(c=d))", "(c=d)")
        self.check("(&(|(a=b)(&))(c=d))", "(c=d)")
        self.check("(&(|(a=b)(a=b))(a=b)(!(!(&(&)(a=b)))))", "(a=b)")

    def test_the_first_filter_stays_as_it_was(self):
        made = read_filter("(&(a=b)(&(c=d)))")
        made.simplified()
        self.assertEqual(made.text, "(&(a=b)(&(c=d)))")
        self.assertEqual([part.text for part in made.parts], ["(a=b)", "(&(c=d))"])

    def test_limits(self):
        inner = All(*[Equal("a", str(number)) for number in range(28)])
        made = All(inner, All(*[Equal("b", str(number)) for number in range(29)])).simplified()
        self.assertEqual((made.size, made.levels), (58, 2))

    def made(self, chance, levels):
        """A filter at random, of parts that are often equal or without effect."""
        kind = chance.randint(0, 5 if levels > 1 else 2)
        if kind == 0:
            return chance.choice((TRUE, FALSE, NONE))
        if kind < 3:
            return chance.choice((All(), Some(), AtLeast("cn", "b"), AtMost("age", "x")))
        if kind == 3:
            return Not(self.made(chance, levels - 1))
        parts = [self.made(chance, levels - 1) for _ in range(chance.randint(0, 3))]
        return All(*parts) if kind == 4 else Some(*parts)

    def test_the_result_is_the_same_and_no_rule_fits(self):
        chance = random.Random(7)
        entries = (ENTRY, Entry("cn=x"), Entry("cn=x", mail=("m",), cn=("c",)), Entry("cn=x", cn=("a",)))
        for _ in range(2000):
            wanted = self.made(chance, 4)
            simple = wanted.simplified()
            self.assertEqual(simple.simplified(), simple)
            self.assertTrue(self.is_simple(simple), simple.text)
            for entry in entries:
                self.assertIs(simple.result(SCHEMA, entry), wanted.result(SCHEMA, entry), wanted.text)

    def is_simple(self, made):
        """Whether no rule of [12] fits a filter."""
        if not all(self.is_simple(part) for part in made.parts):
            return False
        texts = [part.text for part in made.parts]
        if isinstance(made, Not):
            return not isinstance(made.parts[0], Not) and texts[0] not in ("(&)", "(|)")
        if isinstance(made, (All, Some)):
            deciding = "(|)" if isinstance(made, All) else "(&)"
            like = [part for part in made.parts if type(part) is type(made)]
            return like == [] and deciding not in texts and len(texts) != 1 and len(texts) == len(set(texts))
        return True


if __name__ == "__main__":
    unittest.main()
