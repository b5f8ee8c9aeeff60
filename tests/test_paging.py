"""Point [24] and Paging of the interface of dirservice/searching.py."""

import unittest

from dirservice.filters import Equal
from dirservice.indexes import add_index
from dirservice.names import Name
from dirservice.searching import Paging, search
from tests.samples import outcome
from tests.test_searching import NO_NUMBERS
from tests.trees import NAMES, TreeTest, given, no_entry, person, referral, tree, unit

A, ANN, BOB, B, CID, Z = NAMES
OVER = ("PagingOver", {})


def page(paging):
    """The texts of the names of the next page."""
    return tuple(entry.name.text for entry in paging.page())


def pages(paging):
    """All pages that are left."""
    rows = []
    while not paging.is_over:
        rows.append(page(paging))
    return tuple(rows)


class TestPages(TreeTest):

    def test_page_by_page(self):
        paging = Paging(tree(), 4, "")
        self.assertEqual((paging.left, paging.is_over), (6, False))
        self.assertEqual(page(paging), NAMES[:4])
        self.assertEqual((paging.left, paging.is_over), (2, False))
        entries = paging.page()
        self.assertIs(type(entries), tuple)
        self.assertEqual(tuple(entry.name.text for entry in entries), NAMES[4:])
        self.assertEqual((paging.left, paging.is_over), (0, True))
        for _ in range(2):
            self.assertEqual(outcome(paging.page), OVER)
            self.assertEqual((paging.left, paging.is_over), (0, True))

    def test_sizes(self):
        for size in (1, 2, 3, 5, 6, 7, 10 ** 999):
            rows = pages(Paging(tree(), size, ""))
            self.assertEqual(sum(rows, ()), NAMES)
            self.assertTrue(all(len(row) == min(size, 6) for row in rows[:-1]))
            self.assertTrue(1 <= len(rows[-1]) <= size)

    def test_nothing_found(self):
        paging = Paging(tree(), 3, "", "subtree", "(|)")
        self.assertEqual((paging.left, paging.is_over), (0, True))
        self.assertEqual(outcome(paging.page), OVER)

    def test_the_entries_are_those_of_a_search(self):
        directory = tree(referral("ou=R", "west"))
        for options in ({}, {"words": ("cn", "team")}, {"order": ("-cn",)}, {"limit": 7, "manage": True}, {"words": ()}):
            for scope in ("one", "below", "subtree"):
                paging = Paging(directory, 2, "", scope, "(!(ou=B))", **options)
                result = search(directory, "", scope, "(!(ou=B))", **options)
                self.assertEqual(paging.left, len(result))
                entries = sum((paging.page() for _ in range((len(result) + 1) // 2)), ())
                self.assertEqual(entries, result.entries)
                self.assertTrue(paging.is_over)

    def test_arguments_by_name(self):
        paging = Paging(directory=tree(), size=5, base=Name("ou=A"), scope="one", wanted=Equal("kind", "person"), order=("-cn",))
        self.assertEqual(pages(paging), ((BOB, ANN),))
        self.assertEqual(pages(Paging(tree(), 9, base="ou=a")), ((A, ANN, BOB, B, CID),))
        with self.assertRaises(TypeError):
            Paging(tree(), 5, "", "one", "(&)", ("cn",))
        with self.assertRaises(TypeError):
            Paging(tree(), 5, "", other=1)


class TestOneMoment(TreeTest):

    def test_the_directory_changes(self):
        directory = tree()
        directory.modify(ANN, (("add", "mail", ("old",)),))
        paging = Paging(directory, 1, "", "subtree", "(cn=*)")
        first = paging.page()
        self.holds(first[0], mail=("old",), team=(BOB, CID))
        directory.delete(CID)
        directory.undo()
        directory.undo()
        directory.rename(BOB, "cn=Zed")
        directory.add_entry(person("cn=Bo,ou=A"))
        add_index(directory, "cn", "equal")
        self.assertEqual(paging.left, 2)
        self.holds(paging.page()[0], cn=("Bob",), team=(CID,), boss=(ANN,))
        directory.delete(CID)
        self.holds(paging.page()[0], cn=("Cid",), boss=(BOB, ANN))
        self.assertTrue(paging.is_over)

    def test_again(self):
        directory = tree()
        paging = Paging(directory, 2, "ou=A", "one", "(cn=*)", words=("cn",), order=("-cn",), limit=3)
        self.assertEqual(page(paging), (BOB, ANN))
        directory.add_entry(person("cn=Dan,ou=A"))
        other = paging.again()
        self.assertIsInstance(other, Paging)
        self.assertEqual((paging.left, other.left), (0, 3))
        self.assertEqual(other.page()[0].words, ("cn",))
        self.assertEqual(pages(other), ((ANN,),))
        self.assertEqual(outcome(paging.page), OVER)
        self.assertEqual(pages(other.again()), (("cn=Dan,ou=A", BOB), (ANN,)))

    def test_again_while_pages_are_left(self):
        directory = tree()
        paging = Paging(directory, 4, "")
        paging.page()
        directory.delete(CID)
        self.assertEqual(pages(paging.again()), ((A, ANN, BOB, B), (Z,)))
        self.assertEqual(pages(paging), ((CID, Z),))

    def test_errors_of_again(self):
        directory = tree()
        paging = Paging(directory, 2, "ou=B,ou=A", limit=2)
        directory.add_entry(unit("ou=x,ou=B,ou=A"))
        self.assertEqual(outcome(paging.again), ("SizeLimit", {"limit": 2}))
        directory.rename("ou=B,ou=A", "ou=C")
        self.assertEqual(outcome(paging.again), no_entry("ou=B,ou=A", A))
        directory.add_entry(referral("ou=b,ou=A", "west/ou=W"))
        self.assertEqual(outcome(paging.again), ("Referral", {"targets": ("west/ou=W",)}))
        self.assertEqual(paging.left, 2)
        self.assertEqual(pages(paging), ((B, CID),))


class TestErrors(TreeTest):

    def test_no_sizes(self):
        for size in NO_NUMBERS + (None,):
            with self.subTest(size):
                self.assertEqual(outcome(Paging, tree(), size, ""), given("BadNumber", size))
                self.assertEqual(outcome(Paging, tree(), size, "no name", "bad", "bad", limit=-1), given("BadNumber", size))

    def test_the_errors_of_search(self):
        cases = (
            (("no name", "bad"), {}, given("BadName", "no name")),
            (("", "bad", "bad"), {}, given("BadScope", "bad")),
            (("", "one", "bad"), {"words": ("x",)}, ("BadFilter", {"place": 0})),
            (("",), {"words": ("x",), "order": ("boss",)}, ("UnknownAttribute", {"attribute": "x"})),
            (("",), {"order": ("-boss",), "limit": True}, ("NoOrder", {"attribute": "boss"})),
            (("ou=q",), {"limit": True}, given("BadNumber", True)),
            (("ou=q",), {"limit": 1}, no_entry("ou=q")),
            (("",), {"limit": 5}, ("SizeLimit", {"limit": 5})),
            (("ou=r",), {}, ("Referral", {"targets": ("west/",)})),
        )
        for arguments, options, expected in cases:
            with self.subTest(expected):
                directory = tree() if expected[0] != "Referral" else tree(referral("ou=R", "west"))
                self.assertEqual(outcome(Paging, directory, 2, *arguments, **options), expected)


if __name__ == "__main__":
    unittest.main()
