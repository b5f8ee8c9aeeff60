"""Points [2] and [3], and the interface of dirservice/names.py."""

import unittest

from dirservice.errors import BadName
from dirservice.names import Name
from dirservice.values import is_valid, normal
from tests.samples import words_of

NO_STRINGS = (None, True, False, 0, 1, 1.5, (), ("cn=a",), [], ["cn=a"], {}, b"cn=a", object(), Name("cn=a"), Name())

LONGEST = ",".join([f"cn=a{depth}" for depth in range(12)])

# text, normal text, pairs
LEAVES = (
    ("cn=a", "cn=a", (("cn", "a"),)),
    ("cn=Ann Lee", "cn=ann lee", (("cn", "Ann Lee"),)),
    ("cn=Ann   Lee", "cn=ann lee", (("cn", "Ann   Lee"),)),
    ("ou=X+cn=A", "cn=a+ou=x", (("ou", "X"), ("cn", "A"))),
    ("d=4+c=3+b=2+a=1", "a=1+b=2+c=3+d=4", (("d", "4"), ("c", "3"), ("b", "2"), ("a", "1"))),
    ("cn=a\\,b", "cn=a\\,b", (("cn", "a,b"),)),
    ("cn=a\\+b", "cn=a\\+b", (("cn", "a+b"),)),
    ("cn=a\\=b", "cn=a\\=b", (("cn", "a=b"),)),
    ("cn=a\\\\b", "cn=a\\\\b", (("cn", "a\\b"),)),
    ("cn=\\\\\\\\", "cn=\\\\\\\\", (("cn", "\\\\"),)),
    ("cn=\\,", "cn=\\,", (("cn", ","),)),
    ("cn=\\,\\+\\=\\\\", "cn=\\,\\+\\=\\\\", (("cn", ",+=\\"),)),
    ("cn=\\\\\\,A", "cn=\\\\\\,a", (("cn", "\\,A"),)),
    ("cn=\\ A", "cn=a", (("cn", " A"),)),
    ("cn=A\\ ", "cn=a", (("cn", "A "),)),
    ("cn=\\ A\\ ", "cn=a", (("cn", " A "),)),
    ("cn=\\  A \\ ", "cn=a", (("cn", "  A  "),)),
    ("cn=\\ \\,\\ ", "cn=\\,", (("cn", " , "),)),
    ("cn=\\\\ \\ ", "cn=\\\\", (("cn", "\\  "),)),
    ("cn=TRUE/x.y:z", "cn=true/x.y:z", (("cn", "TRUE/x.y:z"),)),
    ("selfs=a", "selfs=a", (("selfs", "a"),)),
    ("abcdefghijkl=a", "abcdefghijkl=a", (("abcdefghijkl", "a"),)),
    ("z=a", "z=a", (("z", "a"),)),
    ("cn=a\\,", "cn=a\\,", (("cn", "a,"),)),
    ("cn=" + "x" * 60, "cn=" + "x" * 60, (("cn", "x" * 60),)),
    ("cn=" + "\\," * 60, "cn=" + "\\," * 60, (("cn", "," * 60),)),
    ("cn=\\ " + " " * 58 + "x", "cn=x", (("cn", " " * 59 + "x"),)),
)

NO_LEAVES = (
    "a", "cn", "=", "=a", "cn=", "cn=+ou=a", "cn=a+", "+cn=a", "cn=a++ou=b", "+",
    "cn=a=b", "cn==a", "cn=a,b", "cn=a+b", "cn=\\", "cn=a\\", "cn=\\\\\\", "cn=a\\b", "cn=\\a", "cn=a\\ b", "cn=a\\\"",
    "cn= a", "cn=a ", "cn= a ", "cn= ", "cn=\\ ", "cn=\\  ", "cn=\\ \\ ", "cn=\\  \\ ", "cn=  a", "cn=a  ", "cn=a \\ b",
    "cn=\\\\ ", "cn=a\\\\ ",
    " cn=a", "cn =a", "cn=a +ou=b", "cn=a+ ou=b", "CN=a", "Cn=a", "c1=a", "c-n=a", "c n=a", "\\cn=a", "c\\n=a", "cn\\=a",
    "self=a", "cn=a+self=b", "abcdefghijklm=a",
    "cn=a+cn=b", "cn=a+cn=a", "cn=a+ou=b+cn=c", "a=1+b=2+c=3+d=4+e=5", "a=1+b=2+c=3+d=4+a=5",
    "cn=a\n", "\ncn=a", "cn=\na", "cn=a\nb", "c\nn=a", "cn\n=a", "\n", "cn=\n", "cn=\\\n",
    "cn=" + "x" * 61, "cn=" + "\\," * 61, "cn=\\ " + " " * 59 + "x",
)

NO_NAMES = (
    ",", " ", "cn=a,", ",cn=a", "cn=a,,ou=b", ",,", "cn=a, ou=b", "cn=a ,ou=b", "cn=a;ou=b", "cn=a,ou", "cn=a,\nou=b",
    "cn=a,ou=b,", LONGEST + ",cn=a", ",".join(["cn=a"] * 13), ",".join(["cn=a"] * 40),
)


class TestTexts(unittest.TestCase):

    def refused(self, expected, function, *arguments):
        with self.assertRaises(BadName) as caught:
            function(*arguments)
        self.assertIs(type(caught.exception.given), type(expected))
        self.assertEqual(caught.exception.given, expected)

    def test_relative_names(self):
        for text, form, pairs in LEAVES:
            with self.subTest(text):
                name = Name(text)
                self.assertEqual((name.text, name.normal, name.leaf, name.pairs), (text, form, text, pairs))
                self.assertEqual((name.depth, name.parent.text, str(name)), (1, "", text))
                self.assertIs(is_valid("name", text), True)
                self.assertEqual(normal("name", text), form)

    def test_relative_names_at_every_place_of_a_name(self):
        for text, form, pairs in LEAVES:
            with self.subTest(text):
                name = Name(f"{text},ou=Top")
                self.assertEqual((name.text, name.normal), (f"{text},ou=Top", f"{form},ou=top"))
                self.assertEqual((name.leaf, name.pairs, name.depth, name.parent.text), (text, pairs, 2, "ou=Top"))
                name = Name(f"ou=Top,{text}")
                self.assertEqual((name.text, name.normal), (f"ou=Top,{text}", f"ou=top,{form}"))
                self.assertEqual((name.leaf, name.parent.text, name.parent.pairs), ("ou=Top", text, pairs))

    def test_what_is_no_relative_name(self):
        for text in NO_LEAVES:
            with self.subTest(text):
                self.refused(text, Name, text)
                self.refused(f"{text},ou=b", Name, f"{text},ou=b")
                self.refused(f"ou=b,{text}", Name, f"ou=b,{text}")
                self.assertIs(is_valid("name", text), False)

    def test_what_is_no_name(self):
        for text in NO_NAMES:
            with self.subTest(text):
                self.refused(text, Name, text)
                self.assertIs(is_valid("name", text), False)

    def test_one_to_four_pairs_and_five(self):
        words = words_of(5)
        for count in range(1, 5):
            text = "+".join([f"{word}=1" for word in words[:count]])
            self.assertEqual(Name(text).pairs, tuple([(word, "1") for word in words[:count]]))
        self.refused("xaa=1+xab=1+xac=1+xad=1+xae=1", Name, "+".join([f"{word}=1" for word in words]))

    def test_twelve_relative_names_and_thirteen(self):
        self.assertEqual((Name(LONGEST).depth, Name(LONGEST).text), (12, LONGEST))
        self.refused(LONGEST + ",cn=b", Name, LONGEST + ",cn=b")

    def test_the_same_relative_name_twice(self):
        self.assertEqual(Name("cn=a,cn=a").depth, 2)

    def test_the_empty_name(self):
        for name in (Name(), Name(""), Name(text=""), Name.of()):
            self.assertEqual((name.text, name.normal, name.leaf, name.pairs, name.depth), ("", "", "", (), 0))
            self.assertEqual((str(name), name.parent), ("", name))
            self.assertIs(type(name.parent), Name)
        self.assertIs(is_valid("name", ""), False)

    def test_values_that_are_no_strings(self):
        for value in NO_STRINGS:
            with self.subTest(value):
                with self.assertRaises(BadName) as caught:
                    Name(value)
                self.assertIs(caught.exception.given, value)

    def test_parent(self):
        name = Name("cn=A\\,\\ ,ou=B+o=C,dc=D")
        self.assertEqual((name.parent.text, name.parent.parent.text), ("ou=B+o=C,dc=D", "dc=D"))
        self.assertEqual(name.parent.parent.parent.text, "")
        self.assertIs(type(name.parent), Name)
        self.assertEqual((name.leaf, name.parent.leaf), ("cn=A\\,\\ ", "ou=B+o=C"))

    def test_of(self):
        self.assertEqual(Name.of("cn=A", "ou=B+o=x", "dc=C").text, "cn=A,ou=B+o=x,dc=C")
        self.assertEqual(Name.of("cn=A\\,b").pairs, (("cn", "A,b"),))
        self.assertEqual(Name.of(*LONGEST.split(",")).text, LONGEST)
        self.assertIs(type(Name.of("cn=a")), Name)

    def test_of_something_that_is_no_relative_name(self):
        for text in NO_LEAVES + NO_NAMES + ("", "cn=a,ou=b", "ou=b,cn=a,o=c"):
            with self.subTest(text):
                self.refused(text, Name.of, text)
                self.refused(text, Name.of, "cn=a", text)
                self.refused(text, Name.of, "cn=a", text, "ou=b", "wrong", None)
        for value in NO_STRINGS:
            with self.subTest(value):
                self.refused(value, Name.of, "cn=a", value, "wrong")
                self.refused("wrong", Name.of, "wrong", value)

    def test_of_too_many(self):
        self.refused(LONGEST + ",ou=b", Name.of, *LONGEST.split(","), "ou=b")
        self.refused("wrong", Name.of, *LONGEST.split(","), "ou=b", "wrong")
        self.refused("", Name.of, *LONGEST.split(","), "ou=b", "")

    def test_child(self):
        self.assertEqual(Name("ou=B").child("cn=A\\ +o=x").text, "cn=A\\ +o=x,ou=B")
        self.assertEqual(Name("").child("cn=A").text, "cn=A")
        self.assertEqual(Name("").child(leaf="cn=A").depth, 1)
        self.assertEqual(Name("cn=a").child("cn=a").text, "cn=a,cn=a")

    def test_child_with_something_that_is_no_relative_name(self):
        for name in (Name(), Name("ou=b"), Name(LONGEST)):
            for text in NO_LEAVES + NO_NAMES + ("", "cn=a,ou=b"):
                with self.subTest(text):
                    self.refused(text, name.child, text)
            for value in NO_STRINGS:
                with self.subTest(value):
                    self.refused(value, name.child, value)

    def test_child_that_is_too_long(self):
        self.refused("cn=x," + LONGEST, Name(LONGEST).child, "cn=x")
        self.assertEqual(Name(LONGEST).parent.child("cn=x").depth, 12)


class TestComparing(unittest.TestCase):

    def test_equality(self):
        equal = (("cn=a", "cn=A"), ("cn=a b", "cn=A   B"), ("cn=\\ a", "cn=a\\ "), ("a=1+b=2", "b=2+a=1"), ("", ""),
                 ("a=X+b=2,cn=Y  z", "b=2+a=x,cn=y Z"), ("d=1+c=2+b=3+a=4", "b=3+d=1+a=4+c=2"))
        for one, other in equal:
            with self.subTest(one):
                self.assertIs(Name(one) == Name(other), True)
                self.assertIs(Name(one) != Name(other), False)
        others = (("cn=a", "cn=b"), ("cn=a", "ou=a"), ("cn=a,ou=b", "ou=b,cn=a"), ("cn=a b", "cn=ab"), ("cn=a", ""),
                  ("cn=a", "cn=a,cn=a"), ("a=1+b=2", "a=2+b=1"), ("a=1+b=2", "a=1,b=2"), ("a=1+b=2", "a=1\\+b\\=2"),
                  ("cn=a\\,b", "cn=ab"), ("cn=1", "cn=01"))
        for one, other in others:
            with self.subTest(one):
                self.assertIs(Name(one) == Name(other), False)
                self.assertIs(Name(one) != Name(other), True)

    def test_a_name_equals_nothing_of_another_kind(self):
        for other in ("cn=a", ("cn=a",), ("cn", "a"), None, 0, b"cn=a", object()):
            self.assertIs(Name("cn=a") == other, False)
            self.assertIs(other == Name("cn=a"), False)
        self.assertIs(Name() == "", False)
        self.assertIs(Name() == (), False)

    def test_in(self):
        base = Name("ou=B  x,a=1+b=2")
        for one in ("ou=b x,b=2+a=1", "ou=\\ B x,a=1+b=2", "cn=a,ou=b X,a=1+b=2", "cn=a,cn=b,ou=b x,b=2+a=1"):
            with self.subTest(one):
                self.assertIs(one in base, True)
                self.assertIs(Name(one) in base, True)
        for one in ("", "a=1+b=2", "ou=b", "ou=b x", "ou=b x,a=1", "ou=b x,a=1+b=2,o=c", "cn=a,ou=bx,a=1+b=2",
                    "cn=a+ou=b x,a=1+b=2", "xou=b x,a=1+b=2", "ou=b x,cn=a,a=1+b=2", "cn=a,a=1+b=2"):
            with self.subTest(one):
                self.assertIs(one in base, False)
                self.assertIs(Name(one) in base, False)

    def test_everything_is_in_the_empty_name(self):
        for one in ("", "cn=a", "cn=a,ou=b", LONGEST):
            self.assertIs(one in Name(), True)
            self.assertIs(Name(one) in Name(), True)
        self.assertIs("" in Name("cn=a"), False)

    def test_in_with_values_that_are_no_names(self):
        for one in NO_LEAVES + NO_NAMES:
            with self.subTest(one):
                self.assertIs(one in Name(), False)
        for one in ("cn=a, ou=b", "cn= a,ou=b", ",ou=b", "cn=a,ou=b,"):
            self.assertIs(one in Name("ou=b"), False)
        for one in NO_STRINGS:
            if not isinstance(one, Name):
                with self.subTest(one):
                    self.assertIs(one in Name(), False)
                    self.assertIs(one in Name("cn=a"), False)

    def test_order(self):
        rows = ("", "cn=a", "cn=a,cn=a", "cn=B,cn=a", "a=9,cn=B,cn=a", "cn=c,cn=a", "cn=a b", "cn=a,cn=A  b", "cn=a+ou=a",
                "cn=aa", "cn=B", "a=1,cn=b", "ou=z,cn=b", "ou=A", "cn=z,ou=a", "ou=a,ou=a", "ou=b")
        for low, one in enumerate(rows):
            for high, other in enumerate(rows):
                with self.subTest(one=one, other=other):
                    self.assertIs(Name(one).comes_before(Name(other)), low < high)

    def test_order_looks_at_normal_texts(self):
        self.assertIs(Name("cn=B").comes_before(Name("cn=a")), False)
        self.assertIs(Name("cn=a").comes_before(Name("cn=B")), True)
        self.assertIs(Name("cn=A").comes_before(other=Name("cn=a")), False)
        self.assertIs(Name("cn=\\ z").comes_before(Name("cn=a")), False)
        self.assertIs(Name("z=1+a=1").comes_before(Name("b=1")), True)

    def test_moved(self):
        for text, old, new, expected in (
            ("cn=x,ou=a", "ou=A", "o=b", "cn=x,o=b"),
            ("cn=X\\,y,ou=a", "ou=a", "o=B,dc=C", "cn=X\\,y,o=B,dc=C"),
            ("ou=a", "ou=A", "o=B", "o=B"),
            ("cn=x,ou=a", "ou=a", "", "cn=x"),
            ("ou=a", "ou=a", "", ""),
            ("cn=x,ou=a", "", "o=b", "cn=x,ou=a,o=b"),
            ("", "", "o=b", "o=b"),
            ("", "", "", ""),
            ("cn=x,b=2+a=\\ 1", "a=1+b=2", "o=b", "cn=x,o=b"),
            ("cn=x,ou=A  b,o=c", "ou=a B,o=c", "o=d", "cn=x,o=d"),
            ("cn=x,cn=x,cn=x", "cn=x", "cn=y", "cn=x,cn=x,cn=y"),
            ("cn=x,cn=y,ou=a", "ou=a", "ou=A", "cn=x,cn=y,ou=A"),
        ):
            with self.subTest(text, old=old, new=new):
                self.assertEqual(Name(text).moved(Name(old), Name(new)).text, expected)
                self.assertEqual(Name(text).moved(old=Name(old), new=Name(new)).text, expected)

    def test_moved_from_elsewhere_stays(self):
        for text, old in (("cn=x,ou=a", "ou=b"), ("ou=a", "cn=x,ou=a"), ("", "ou=a"), ("cn=x,ou=a", "cn=x"),
                          ("cn=x,ou=aa", "ou=a"), (LONGEST, "ou=b")):
            with self.subTest(text):
                name = Name(text)
                self.assertIs(name.moved(Name(old), Name(LONGEST)), name)

    def test_moved_too_far(self):
        shorter = Name(LONGEST).parent.text
        self.assertEqual(Name("cn=x,ou=a").moved(Name("ou=a"), Name(shorter)).text, "cn=x," + shorter)
        for text, old, new, whole in (
            ("cn=x,ou=a", "ou=a", LONGEST, "cn=x," + LONGEST),
            ("cn=X,cn=y,ou=a", "ou=a", shorter, "cn=X,cn=y," + shorter),
            (LONGEST, "", "o=b", LONGEST + ",o=b"),
        ):
            with self.subTest(text):
                with self.assertRaises(BadName) as caught:
                    Name(text).moved(Name(old), Name(new))
                self.assertEqual(caught.exception.given, whole)

    def test_names_are_not_changed_by_what_is_asked(self):
        name, old, new = Name("cn=X,ou=a"), Name("ou=a"), Name("o=B")
        name.moved(old, new)
        name.child("cn=y")
        self.assertEqual((name.text, old.text, new.text), ("cn=X,ou=a", "ou=a", "o=B"))
        self.assertEqual((name.pairs, name.depth), ((("cn", "X"),), 2))


if __name__ == "__main__":
    unittest.main()
