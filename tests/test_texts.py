"""Points [30] to [32] and the interface of dirservice/texts.py: what is written and read."""

import unittest

from dirservice.directories import Directory
from dirservice.entries import Entry
from dirservice.names import Name
from dirservice.texts import entry_text, read, read_entry, read_script, script_text, write
from tests.samples import outcome, words_of
from tests.trees import NAMES, TreeTest, facts_of, given, no_entry, person, referral, tree, tree_schema, unit, values_of

BEGINNINGS = ("name", "add", "delete", "modify", "rename", "leaf", "under", "keep", "replace", "increment")
VALUES = ("a", " ", "  ", " a", "a ", ":", ": ", "a: b", "=", "= x", " = ", "add", "add cn", "TRUE", "\\", "a\\,b", ",+=\\", "~!#$", "0")


def texts_of(depth):
    """Names with that many relative names."""
    names = [",".join(f"x={word}" for word in words_of(depth)), ",".join(["cn=A\\, b\\=\\+\\\\+ou=\\ x\\ "] * depth)]
    return names + [",".join(["a=:\\ +b=\\= \\=\\ +cn=add+name=:"] * depth)]


class TestEntries(TreeTest):

    def test_the_lines(self):
        entry = Entry("cn=Ann,ou=a", ou=("x", "A"), kind=("person",), cn=("Ann", "b", "a"))
        self.assertEqual(entry_text(entry), "name: cn=Ann,ou=a\ncn: Ann\ncn: b\ncn: a\nkind: person\nou: x\nou: A")
        self.assertEqual(entry_text(entry=Entry("cn=A")), "name: cn=A")
        self.assertEqual(entry_text(Entry("")), "name: ")
        self.assertEqual(entry_text(Entry("", name=("x",))), "name: \nname: x")

    def test_what_the_entry_has(self):
        # The values of mirrors too, if it has them.
        self.assertEqual(entry_text(tree()["cn=Bob,ou=A"]),
                         "name: cn=Bob,ou=A\nboss: cn=Ann,ou=A\ncn: Bob\ncrew: cn=Cid,ou=B,ou=A\nkind: person\nluck: 3\nluck: -4\n"
                         "team: cn=Cid,ou=B,ou=A")

    def test_they_are_read(self):
        entry = read_entry("name: cn=Ann,ou=a\nou: x\nou: A\ncn: Ann\nkind: person")
        self.assertEqual(entry, Entry("cn=Ann,ou=a", ou=("x", "A"), kind=("person",), cn=("Ann",)))
        self.assertIsInstance(entry, Entry)
        self.assertEqual(read_entry(text="name: "), Entry(""))
        self.assertEqual(entry.name.text, "cn=Ann,ou=a")

    def test_all_names(self):
        for depth in range(1, 13):
            for name in texts_of(depth):
                entry = Entry(name, cn=("a",))
                self.assertEqual(entry_text(entry), f"name: {name}\ncn: a")
                self.assertEqual(read_entry(entry_text(entry)), entry)

    def test_attributes_named_like_beginnings_of_lines(self):
        entry = Entry.of("name=x", {word: VALUES for word in BEGINNINGS})
        self.assertEqual(read_entry(entry_text(entry)), entry)
        self.assertEqual(entry_text(read_entry(entry_text(entry))), entry_text(entry))
        self.assertEqual(read_entry("name: a=b\nname: a=b\nname: x"), Entry("a=b", name=("a=b", "x")))

    def test_values(self):
        for value in VALUES:
            self.assertEqual(entry_text(Entry("cn=a", cn=(value,))), f"name: cn=a\ncn: {value}")
            self.assertEqual(read_entry(f"name: cn=a\ncn: {value}"), Entry("cn=a", cn=(value,)))
        self.assertEqual(read_entry("name: cn=a\ncn: x\ncn: x\ncn: X"), Entry("cn=a", cn=("x", "x", "X")))

    def test_schemas_are_not_looked_at(self):
        self.assertEqual(read_entry("name: cn=a\nnone: x\nteam: y"), Entry("cn=a", none=("x",), team=("y",)))


class TestDirectories(TreeTest):

    def test_the_empty_directory(self):
        self.assertEqual(write(Directory(tree_schema())), "")
        self.assertEqual(read(tree_schema(), ""), Directory(tree_schema()))

    def test_the_lines(self):
        directory = Directory(tree_schema(), (unit("ou=b"), person("cn=Ann,ou=b", boss=("cn=ann,ou=B",)), unit("ou=a", mail=("x", "Y"))))
        text = "name: ou=a\nkind: unit\nmail: x\nmail: Y\nou: a\n\nname: ou=b\nkind: unit\nou: b\n\n" \
            "name: cn=Ann,ou=b\nboss: cn=Ann,ou=b\ncn: Ann\nkind: person"
        self.assertEqual(write(directory), text)
        self.assertEqual(write(directory=directory), text)
        other = read(schema=tree_schema(), text=text)
        self.assertEqual(other, directory)
        self.assertEqual((other.undoable, other.indexes, other.schema), (0, (), tree_schema()))

    def test_written_and_read_again(self):
        for directory in (tree(), tree(referral("ou=R", "west", "east/ou=x,ou=y")), Directory(tree_schema(), (unit("ou=a"),))):
            before = facts_of(directory)
            self.assertEqual(read(tree_schema(), write(directory)), directory)
            self.assertEqual(write(read(tree_schema(), write(directory))), write(directory))
            self.assertEqual(facts_of(directory), before)
        self.assertFalse(write(tree()).endswith("\n"))
        self.assertNotIn("team", write(tree()))
        self.assertEqual([row for row in write(tree()).split("\n") if row.startswith("name: ")], [f"name: {name}" for name in NAMES])

    def test_entries_are_added_in_the_order_of_the_text(self):
        self.assertEqual(outcome(read, tree_schema(), "name: ou=b,ou=a\nkind: unit\nou: b\n\nname: ou=a\nkind: unit\nou: a"),
                         no_entry("ou=a"))
        # As one unit, so that values may name what follows.
        directory = read(tree_schema(), "name: ou=b\nkind: unit\nou: b\nboss: ou=A\n\nname: ou=a\nkind: unit\nou: a")
        self.assertEqual(values_of(directory["ou=B"])["boss"], ("ou=a",))

    def test_three_hundred_entries(self):
        entries = tuple(unit(f"ou={word}") for word in words_of(300))
        text = write(Directory(tree_schema(), entries))
        self.assertEqual(read(tree_schema(), text), Directory(tree_schema(), entries))
        self.assertEqual(outcome(read, tree_schema(), text + "\n\nname: ou=a\nou: a\nkind: unit"), ("Full", {"limit": 300}))

    def test_errors_of_deeds_come_behind_those_of_the_text(self):
        cases = (
            ("name: ", given("NameTaken", "")),
            ("name: ou=a\nkind: unit\nou: a\n\nname: ou=A", given("NameTaken", "ou=a")),
            ("name: ou=a\nnone: x", ("UnknownAttribute", {"attribute": "none"})),
            ("name: ou=a\nteam: ou=a", ("MirrorGiven", {"attribute": "team"})),
            ("name: ou=a", given("UnknownClass", "")),
            ("name: ou=a\nkind: unit\nou: a\nou: A", ("ValueTaken", {"attribute": "ou", "item": "A"})),
            ("name: ou=a\nkind: unit\nou: b", ("NotNamed", {"attribute": "ou"})),
            ("name: cn=a\nkind: person\ncn: a", given("BadPlace", "cn=a")),
            ("name: ou=a\nkind: unit\nou: a\nboss: ou=b", ("NoTarget", {"attribute": "boss", "item": "ou=b"})),
        )
        for text, expected in cases:
            with self.subTest(text):
                self.assertEqual(outcome(read, tree_schema(), text), expected)
                lines = text.count("\n") + 1
                self.assertEqual(outcome(read, tree_schema(), text + "\n"), ("BadText", {"line": lines + 2}))
                self.assertEqual(outcome(read, tree_schema(), text + "\n\nname: x"), ("BadText", {"line": lines + 2}))


DEEDS = (
    ("add", Entry("cn=Ann,ou=a", ou=("x", "A"), cn=("Ann",))),
    ("add", Entry("")),
    ("delete", "cn=a"),
    ("delete", ""),
    ("modify", "cn=b", ()),
    ("modify", "", (("add", "age", ("5",)), ("increment", "age", 2), ("delete", "cn", ()), ("delete", "cn", ("x", " y ")),
                    ("replace", "mail", ("= a", ":")), ("replace", "mail", ()), ("add", "mail", ()), ("increment", "add", -7))),
    ("rename", "cn=a", "cn=b", None, False),
    ("rename", "cn=a", "cn=b", "", False),
    ("rename", "", "", "ou=x,ou=y", True),
    ("rename", "cn=a", "cn=b", None, True),
)
SCRIPT = """add: cn=Ann,ou=a
cn: Ann
ou: x
ou: A

add: 

delete: cn=a

delete: 

modify: cn=b

modify: 
add age
= 5
increment age 2
delete cn
delete cn
= x
=  y 
replace mail
= = a
= :
replace mail
add mail
increment add -7

rename: cn=a
leaf: cn=b

rename: cn=a
leaf: cn=b
under: 

rename: 
leaf: 
under: ou=x,ou=y
keep: TRUE

rename: cn=a
leaf: cn=b
keep: TRUE"""


class TestScripts(TreeTest):

    def test_the_empty_script(self):
        self.assertEqual(script_text(()), "")
        self.assertEqual(read_script(""), ())
        self.assertIs(type(read_script("")), tuple)

    def test_every_deed(self):
        self.assertEqual(script_text(DEEDS), SCRIPT)
        self.assertEqual(script_text(deeds=DEEDS), SCRIPT)
        self.assertEqual(read_script(SCRIPT), DEEDS)
        self.assertEqual(read_script(text=SCRIPT), DEEDS)
        for deed in DEEDS:
            self.assertEqual(read_script(script_text((deed,))), (deed,))
            self.assertEqual(script_text(read_script(script_text((deed, deed)))), script_text((deed,)) + "\n\n" + script_text((deed,)))

    def test_kinds_of_values(self):
        for deed in read_script(SCRIPT):
            self.assertIs(type(deed), tuple)
            if deed[0] == "modify":
                self.assertEqual([type(value) for value in deed[1:]], [str, tuple])
                for sign, word, given_ones in deed[2]:
                    self.assertEqual((type(sign), type(word)), (str, str))
                    self.assertIs(type(given_ones), int if sign == "increment" else tuple)
            if deed[0] == "rename":
                self.assertIs(type(deed[4]), bool)

    def test_texts_that_are_no_names(self):
        for text in ("", " ", "x", "no name", ": ", "leaf: a", "cn=a,", "=", "\\", "TRUE"):
            deeds = (("delete", text), ("modify", text, ()), ("rename", text, text, text, True), ("rename", text, text, None, False))
            self.assertEqual(read_script(script_text(deeds)), deeds)
        self.assertEqual(script_text((("rename", "a", "b", "c", True),)), "rename: a\nleaf: b\nunder: c\nkeep: TRUE")

    def test_values_of_changes(self):
        for value in VALUES:
            for sign in ("add", "delete", "replace"):
                deeds = (("modify", "cn=a", ((sign, "mail", (value, value)), (sign, "add", (value,)))),)
                self.assertEqual(script_text(deeds), f"modify: cn=a\n{sign} mail\n= {value}\n= {value}\n{sign} add\n= {value}")
                self.assertEqual(read_script(script_text(deeds)), deeds)

    def test_words_like_beginnings_of_lines(self):
        for word in BEGINNINGS:
            deeds = (("add", Entry.of("add=x", {word: VALUES})),
                     ("modify", "a", (("add", word, ()), ("delete", word, ("x",)), ("replace", word, ("y",)), ("increment", word, 5))))
            self.assertEqual(read_script(script_text(deeds)), deeds)

    def test_increments(self):
        for step in (0, 1, -1, 10 ** 29, -10 ** 29, int("9" * 30), -int("9" * 30)):
            deeds = (("modify", "cn=a", (("increment", "age", step),)),)
            self.assertEqual(script_text(deeds), f"modify: cn=a\nincrement age {step}")
            self.assertEqual(read_script(script_text(deeds)), deeds)
        for number in ("1" + "0" * 30, "-1" + "0" * 30, "-0", "00", "01", "+1", "1.0", " 1", "1 ", "", "-", "x", "TRUE", "1 2", "- 1", "1_0"):
            self.assertEqual(outcome(read_script, f"modify: cn=a\nincrement age {number}"), ("BadText", {"line": 2}))

    def test_what_is_read_can_be_done(self):
        text = "add: ou=New\nkind: unit\nou: New\n\nrename: cn=bob,ou=a\nleaf: cn=Rob\nunder: ou=new\n\n" \
            "modify: cn=rob,ou=new\nincrement luck 5\ndelete boss\n\nrename: ou=b,ou=a\nleaf: ou=b\nunder: \n\ndelete: ou=z"
        directory = tree()
        directory.apply(read_script(text))
        self.assertEqual(directory.undoable, 1)
        self.holds(directory["cn=Rob,ou=New"], luck=("8", "1"), boss=(), cn=("Rob",))
        self.assertEqual([entry.name.text for entry in directory.walk()],
                         ["ou=A", "cn=Ann,ou=A", "ou=b", "cn=Cid,ou=b", "ou=New", "cn=Rob,ou=New"])
        names = tuple(deed[1] if isinstance(deed[1], str) else deed[1].name.text for deed in read_script(text))
        self.assertEqual(names, ("ou=New", "cn=bob,ou=a", "cn=rob,ou=new", "ou=b,ou=a", "ou=z"))
        self.assertIsInstance(read_script(text)[0][1].name, Name)


if __name__ == "__main__":
    unittest.main()
