"""Point [1], and the interface of dirservice/values.py."""

import itertools
import unittest

from dirservice import values
from dirservice.names import Name
from dirservice.values import SYNTAXES, are_equal, has_order, is_less, is_valid, normal, valid_normal

NO_STRINGS = (None, True, False, 0, 1, -5, 12, 1.5, (), ("a",), ("0",), [], ["a"], {}, {"a": 1}, b"a", b"0",
              Name("cn=a"), object(), str)

VALID = {
    "text": ("a", "A b", " a ", "a" * 60, " " * 59 + "a", "\\", "\"", "a,b+c=d", "0", "TRUE", "self", "~!"),
    "exact": ("a", "A b", " ", "  ", " " * 60, "x" * 60, "\\,", "0", "TRUE"),
    "integer": ("0", "1", "9", "10", "-1", "-10", "1" + "0" * 29, "9" * 30, "-" + "9" * 30, "123456789"),
    "truth": ("TRUE", "FALSE"),
    "name": ("cn=a", "cn=a,ou=b", "cn=A  b+ou=c", "cn=a\\,b", "cn=" + "x" * 60, ",".join(["cn=a"] * 12)),
}
NOT_VALID = {
    "text": ("", " ", "   ", " " * 60, "a" * 61, " " * 60 + "a", "a\n", "\na", "a\nb", "\n"),
    "exact": ("", "x" * 61, " " * 61, "a\n", "\n", "a\nb"),
    "integer": ("", "-", "--1", "-0", "00", "01", "-01", "+1", "1-", "1.0", "1e3", " 1", "1 ", "- 1", "1_0", "a", "0x1",
                "1" + "0" * 30, "-" + "9" * 31, "0" * 30, "0\n", "1\n", "\n1", "-1\n", "1\n2", " ", "-a", "1a"),
    "truth": ("", "true", "false", "True", "TRUE ", " TRUE", "TRUE\n", "TRUEFALSE", "1", "T", "TRU"),
    "name": ("", "a", "cn=", "cn=a,", ",cn=a", "cn= a", "cn=a ", "cn=a, ou=b", "cn=a\n", "self=a", "CN=a", "cn=a+cn=b",
             "cn=" + "x" * 61, ",".join(["cn=a"] * 13), "a=1+b=2+c=3+d=4+e=5", " cn=a", "cn=a\\b"),
}


class TestLimits(unittest.TestCase):

    def test_constants(self):
        self.assertEqual(SYNTAXES, ("text", "exact", "integer", "truth", "name"))
        self.assertEqual((values.MAX_VALUE, values.MAX_DIGITS), (60, 30))

    def test_has_order(self):
        self.assertEqual([has_order(syntax) for syntax in SYNTAXES], [True, True, True, False, False])

    def test_parameters_by_name(self):
        self.assertIs(is_valid(syntax="text", value="a"), True)
        self.assertEqual(normal(syntax="text", value=" A"), "a")
        self.assertIs(are_equal(syntax="text", one="a", other="A"), True)
        self.assertIs(is_less(syntax="integer", one="9", other="10"), True)
        self.assertIs(has_order(syntax="name"), False)


class TestIsValid(unittest.TestCase):

    def test_valid_values(self):
        for syntax in SYNTAXES:
            for value in VALID[syntax]:
                with self.subTest(syntax, value=value):
                    self.assertIs(is_valid(syntax, value), True)

    def test_values_that_are_not_valid(self):
        for syntax in SYNTAXES:
            for value in NOT_VALID[syntax]:
                with self.subTest(syntax, value=value):
                    self.assertIs(is_valid(syntax, value), False)

    def test_values_that_are_no_strings(self):
        for syntax in SYNTAXES:
            for value in NO_STRINGS:
                with self.subTest(syntax, value=value):
                    self.assertIs(is_valid(syntax, value), False)


class TestNormal(unittest.TestCase):

    def test_text_is_folded(self):
        for value, form in (("a", "a"), ("Ann LEE", "ann lee"), ("  A   b ", "a b"), ("a" * 60, "a" * 60),
                            (" " * 59 + "Z", "z"), ("x  y   z", "x y z"), ("A,B\\", "a,b\\"), ("TRUE", "true")):
            with self.subTest(value):
                self.assertEqual(normal("text", value), form)

    def test_exact_integer_and_truth_stay(self):
        for syntax in ("exact", "integer", "truth"):
            for value in VALID[syntax] + ((" A  b ",) if syntax == "exact" else ()):
                with self.subTest(syntax, value=value):
                    self.assertEqual(normal(syntax, value), value)

    def test_name_is_the_normal_text(self):
        for value, form in (("cn=a", "cn=a"), ("cn=A  B,ou=X", "cn=a b,ou=x"), ("ou=b+cn=a", "cn=a+ou=b"),
                            ("cn=\\ A\\ ", "cn=a"), ("cn=A\\,b\\+\\=\\\\", "cn=a\\,b\\+\\=\\\\")):
            with self.subTest(value):
                self.assertEqual(normal("name", value), form)
                self.assertEqual(normal("name", value), Name(value).normal)


class TestAreEqual(unittest.TestCase):

    def check(self, syntax, rows, expected):
        for one, other in rows:
            with self.subTest(syntax, one=one, other=other):
                self.assertIs(are_equal(syntax, one, other), expected)
                self.assertIs(are_equal(syntax, other, one), expected)

    def test_valid_values_with_the_same_normal_form(self):
        self.check("text", (("a", "A"), (" a  B ", "a b"), ("x", "x")), True)
        self.check("exact", (("a", "a"), (" ", " ")), True)
        self.check("integer", (("0", "0"), ("-12", "-12")), True)
        self.check("truth", (("TRUE", "TRUE"),), True)
        self.check("name", (("cn=a,ou=b", "cn=A,ou=B"), ("a=1+b=2", "b=2+a=1"), ("cn=a  b", "cn=A b"),
                            ("cn=\\ a", "cn=a")), True)

    def test_valid_values_with_other_normal_forms(self):
        self.check("text", (("a", "b"), ("a b", "ab")), False)
        self.check("exact", (("a", "A"), ("a", "a "), (" ", "  "), ("a b", "a  b")), False)
        self.check("integer", (("1", "-1"), ("1", "10")), False)
        self.check("truth", (("TRUE", "FALSE"),), False)
        self.check("name", (("cn=a", "ou=a"), ("cn=a,ou=b", "ou=b,cn=a"), ("cn=a", "cn=a,ou=b")), False)

    def test_values_that_are_not_valid_only_equal_themselves(self):
        self.check("text", (("", ""), (" ", " "), ("a" * 61, "a" * 61), ("a\n", "a\n")), True)
        self.check("text", (("", " "), (" ", "  "), ("a" * 61, "A" * 61), ("a\n", "A\n")), False)
        self.check("exact", (("x" * 61, "x" * 61), ("", "")), True)
        self.check("integer", (("01", "01"), ("-0", "-0"), ("a", "a"), ("", "")), True)
        self.check("integer", (("00", "000"), ("01", "001"), ("a", "A"), ("-", "")), False)
        self.check("truth", (("true", "true"),), True)
        self.check("truth", (("true", "True"), ("", "x")), False)
        self.check("name", (("cn=", "cn="), ("", ""), ("Cn=a", "Cn=a")), True)
        self.check("name", (("CN=a", "cN=a"), ("cn=a, ou=b", "cn=A, ou=b"), ("", "x")), False)

    def test_one_valid_value_and_one_that_is_not(self):
        self.check("text", (("a" * 60, "a" * 61), ("a", ""), ("a", "a\n"), (" " * 60 + "a", "a")), False)
        self.check("exact", (("a", ""), ("a", "a\n")), False)
        self.check("integer", (("0", "-0"), ("0", "00"), ("1", "01"), ("1", " 1"), ("1", "+1")), False)
        self.check("truth", (("TRUE", "true"), ("FALSE", "")), False)
        self.check("name", (("cn=a", "CN=a"), ("cn=a", "cn= a"), ("cn=a", ""), ("cn=a,ou=b", "cn=a, ou=b")), False)


class TestIsLess(unittest.TestCase):

    def check_ascending(self, syntax, rows):
        for (low, one), (high, other) in itertools.product(enumerate(rows), repeat=2):
            with self.subTest(syntax, one=one, other=other):
                self.assertIs(is_less(syntax, one, other), low < high)

    def test_integers(self):
        self.check_ascending("integer", ("-" + "9" * 30, "-100", "-99", "-10", "-9", "-2", "-1", "0", "1", "2", "9", "10",
                                         "99", "100", "1" + "0" * 29, "9" * 30))

    def test_texts(self):
        self.check_ascending("text", ("  !", "10", "9", "A", "a b", "AB", "b", "Ba", "~"))

    def test_exact(self):
        self.check_ascending("exact", (" ", "  ", " a", "10", "9", "A", "B", "a", "a ", "ab", "b"))

    def test_equal_values_are_not_less(self):
        self.assertIs(is_less("text", "a  B", " A b "), False)
        self.assertIs(is_less("text", " A b ", "a  B"), False)


class TestValidNormal(unittest.TestCase):

    def test_normal_forms_of_valid_values_and_none_for_others(self):
        for syntax in SYNTAXES:
            for value in VALID[syntax]:
                self.assertEqual(valid_normal(syntax, value), normal(syntax, value))
                # So the normal form of a value never is a value that is not valid.
                self.assertEqual(valid_normal(syntax, normal(syntax, value)), normal(syntax, value))
            for value in NOT_VALID[syntax] + NO_STRINGS:
                self.assertIsNone(valid_normal(syntax, value))


if __name__ == "__main__":
    unittest.main()
