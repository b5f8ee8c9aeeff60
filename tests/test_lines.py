"""Point [32]: which line of a text is told as the first one that cannot stand there."""

import re
import unittest

from dirservice.entries import Entry
from dirservice.names import Name
from dirservice.texts import read, read_entry, read_script
from tests.samples import outcome
from tests.test_texts import SCRIPT
from tests.trees import TreeTest, tree_schema

ENTRY = "name: ou=a\nkind: unit\nmail: x\nmail: y\nou: a"
SAME = "name: a=b\nb: x\nb: =\nname: y: z\na:  "
TWO = ENTRY + "\n\nname: ou=b\nkind: unit\nou: b"
NO_TEXTS = (None, True, 0, 5, (), ("name: a=b",), [], ["name: a=b"], {}, b"name: a=b", Entry("a=b"))


def bad(line):
    return ("BadText", {"line": line})


# What may follow in each state: patterns of lines, and the states behind them.
FOLLOWS = {
    "entry": (("name: (?P<name>.*)", "values"),),
    "deed": (("add: (?P<name>.*)", "values"), ("delete: .*", "end"), ("modify: .*", "changes"), ("rename: .*", "leaf")),
    "values": (("(?P<word>[a-z]{1,12}): .+", "values"),),
    "leaf": (("leaf: .*", "under"),),
    "under": (("under: .*", "keep"), ("keep: TRUE", "end")),
    "keep": (("keep: TRUE", "end"),),
    "changes": (("(add|delete|replace) (?P<word>[a-z]{1,12})", "given"), ("increment (?P<word>[a-z]{1,12}) (0|-?[1-9][0-9]{0,29})", "changes")),
    "end": (),
}
FOLLOWS["given"] = FOLLOWS["changes"] + (("= .+", "given"),)


def is_name(text):
    return outcome(Name, text) != ("BadName", {"given": text})


def first_bad(text, start):
    """The number of the first line that cannot stand there, or None; start is the state of the first line of each block."""
    if text == "":
        return None
    state, words = start, []
    rows = text.split("\n")
    for number, row in enumerate(rows, 1):
        if row == "" and state not in (start, "leaf"):
            state, words = start, []
            continue
        for pattern, after in FOLLOWS[state]:
            found = re.fullmatch(pattern, row)
            if found and is_right(found.groupdict(), state, words):
                state = after
                break
        else:
            return number
    return len(rows) + 1 if state in (start, "leaf") else None


def is_right(groups, state, words):
    """Whether the name and the word of a line are right; the words of an entry are noted."""
    word = groups.get("word")
    if word == "self" or (groups.get("name") is not None and not is_name(groups["name"])):
        return False
    if state == "values":
        if word in words[:-1] and word != words[-1]:
            return False
        words.append(word)
    return True


def changed(text):
    """A text in each of many ways: lines left out, doubled, exchanged with the next one, cut, and with a space more."""
    rows = text.split("\n")
    for place, row in enumerate(rows):
        before, behind = rows[:place], rows[place + 1:]
        yield before + behind
        yield before + [row, row] + behind
        yield before + behind[:1] + [row] + behind[1:]
        yield before
        yield before + [""]
        for other in (row + " ", " " + row, "", row.upper(), row.replace(": ", ":"), row.replace(" ", "  ", 1)):
            yield before + [other] + behind
        for count in range(len(row)):
            yield before + [row[:count]] + behind
        yield before + [""] + rows[place:]
        yield before + ["", ""] + rows[place:]
    for other in ([""] + rows, rows + [""], rows + ["", ""], rows + [" "]):
        yield other


class LineTest(TreeTest):

    def check_entry(self, text, line):
        """The text of an entry, of a directory with this entry alone, and of a script that adds it."""
        self.assertEqual(outcome(read_entry, text), bad(line))
        self.assertEqual(outcome(read, tree_schema(), text), bad(line))
        if text.startswith("name:"):
            self.assertEqual(outcome(read_script, "add:" + text[5:]), bad(line))

    def check_script(self, text, line):
        self.assertEqual(outcome(read_script, text), bad(line))
        # Behind another deed it is as many lines further.
        self.assertEqual(outcome(read_script, "modify: a\nadd b\n\n" + text), bad(line + 3))

    def check_read(self, text):
        self.assertIs(type(outcome(read_script, text)[0]), tuple)


class TestNoTexts(LineTest):

    def test_values_that_are_no_strings(self):
        for text in NO_TEXTS:
            with self.subTest(text):
                for function, arguments in ((read_entry, ()), (read, (tree_schema(),)), (read_script, ())):
                    self.assertEqual(outcome(function, *arguments, text), bad(0))


class TestEmptyLines(LineTest):

    def test_in_the_text_of_an_entry(self):
        for text, line in (("", 1), ("\n", 1), ("\n" + ENTRY, 1), (ENTRY + "\n", 6), (ENTRY + "\n\n", 6), (TWO, 6),
                           ("name: ou=a\n\nou: a", 2), ("name: ou=a\n", 2)):
            self.assertEqual(outcome(read_entry, text), bad(line))

    def test_in_the_text_of_a_directory(self):
        for text, line in (("\n", 1), ("\n\n", 1), ("\n" + ENTRY, 1), (ENTRY + "\n", 7), (ENTRY + "\n\n", 7), (ENTRY + "\n\n\n", 7),
                           ("name: cn=a\n", 3), ("name: cn=a\n\n\nname: cn=b", 3), (TWO + "\n", 11), ("name: ou=a\n\nou: a", 3),
                           (TWO.replace("\n\n", "\n\n\n"), 7), (ENTRY + "\n ", 6), (ENTRY + "\n \n" + ENTRY, 6)):
            with self.subTest(text):
                self.assertEqual(outcome(read, tree_schema(), text), bad(line))

    def test_in_a_script(self):
        for text, line in (("\n", 1), ("\n\n", 1), ("\ndelete: a", 1), ("delete: a\n", 3), ("delete: a\n\n", 3), ("delete: a\n\n\n", 3),
                           ("delete: a\n\n\ndelete: b", 3), ("delete: a\n ", 2), ("rename: a\n\nleaf: b", 2), ("rename: a\n", 2),
                           ("rename: a\n\n", 2), ("modify: a\nadd b\n\n= c", 4), ("add: a=b\n\nc: d", 3), ("modify: a\n\nadd b", 3)):
            with self.subTest(text):
                self.assertEqual(outcome(read_script, text), bad(line))


class TestLinesOfEntries(LineTest):

    def test_the_first_line(self):
        for line in ("name:", "name:ou=a", "name : ou=a", " name: ou=a", "Name: ou=a", "ou: a", "name", "add: ou=a", "delete: ou=a",
                     "name:  ou=a", "name: ou=a ", "name: ou", "name: ou=", "name: ou=a,", "name: ou=a, ou=b", "name: OU=a", "x",
                     "name: " + ",".join(["ou=a"] * 13), "name: ou=" + "a" * 61, "name: self=a", "name: a=1+b=2+c=3+d=4+e=5"):
            with self.subTest(line):
                self.assertEqual(outcome(read_entry, line + ENTRY[10:]), bad(1))
                self.assertEqual(outcome(read, tree_schema(), TWO.replace("name: ou=b", line)), bad(7))
        for line in ("name: ", "name: ou=a\\ ", "name: " + ",".join(["ou=a"] * 12), "name: ou=" + "a" * 60):
            self.assertIsInstance(read_entry(line + ENTRY[10:]), Entry)

    def test_the_lines_of_values(self):
        for line in ("mail", "mail:", "mail: ", "mail:x", "mail :x", "mail : x", " mail: x", "Mail: x", "ma il: x", ": x", "= x",
                     "self: x", "abcdefghijklm: x", "mail1: x", "ma-il: x", " ", "add mail", "mail;: x"):
            with self.subTest(line):
                self.check_entry(ENTRY.replace("mail: x", line), 3)
                self.check_entry(ENTRY + "\n" + line, 6)
        for line in ("abcdefghijkl: x", "mail:  ", "mail:  x", "selfs: x", "name: x", "add: x"):
            self.assertIsInstance(read_entry(ENTRY.replace("mail: x", line)), Entry)

    def test_lines_of_one_attribute_stand_side_by_side(self):
        self.check_entry("name: ou=a\nou: a\nmail: x\nou: b", 4)
        self.check_entry("name: ou=a\nou: a\nou: b\nmail: x\nmail: y\nkind: z\nmail: x", 7)
        self.check_entry("name: ou=a\nname: x\nou: a\nname: x", 4)
        self.assertEqual(read_entry("name: ou=a\nou: b\nou: a\nmail: y\nmail: x"), Entry("ou=a", ou=("b", "a"), mail=("y", "x")))
        # Each entry begins anew.
        self.assertEqual(len(read_script("add: a=b\nc: d\n\nadd: a=b\nc: d")), 2)


class TestLinesOfScripts(LineTest):

    def test_the_first_line(self):
        for line in ("", "x", "delete", "delete:", "delete:a", "delete : a", " delete: a", "Delete: a", "name: a=b", "leaf: a", "under: a",
                     "keep: TRUE", "add a", "delete a", "= a", "increment a 5", "replace: a", "increment: a", "rename:", "modify:", "add:",
                     "add: x", "add: a=b ", "add:  a=b", "move: a"):
            with self.subTest(line):
                if line:
                    self.assertEqual(outcome(read_script, line), bad(1))
                    self.assertEqual(outcome(read_script, line + "\n\ndelete: a"), bad(1))
                self.assertEqual(outcome(read_script, "delete: a\n\n" + line), bad(3))

    def test_delete(self):
        for line in ("delete: b", "x: y", "add x", "= x", " ", "leaf: x"):
            self.check_script("delete: a\n" + line, 2)

    def test_rename(self):
        self.check_script("rename: a", 2)
        for line in ("leaf", "leaf:", "leaf:a", " leaf: a", "Leaf: a", "under: a", "keep: TRUE", "rename: a", "", "delete: a"):
            self.check_script("rename: a\n" + line, 2)
        for line in ("leaf: a", "under", "under:", "keep: FALSE", "keep: true", "keep: TRUE ", "keep:TRUE", "keep: ", " keep: TRUE", "x",
                     "keep", "= a"):
            self.check_script("rename: a\nleaf: b\n" + line, 3)
        for line in ("under: c", "keep: FALSE", "keep: TRUE ", "leaf: b"):
            self.check_script("rename: a\nleaf: b\nunder: c\n" + line, 4)
        for line in ("under: c", "keep: TRUE", "leaf: b", "x"):
            self.check_script("rename: a\nleaf: b\nkeep: TRUE\n" + line, 4)
            self.check_script("rename: a\nleaf: b\nunder: \nkeep: TRUE\n" + line, 5)

    def test_modify(self):
        for line in ("= x", "x", "add", "add ", "add  x", "add x ", "add x y", "Add x", "add: x", "add self", "add X", "add abcdefghijklm",
                     "delete", "replace", "remove x", "increment x", "increment  5", "increment x  5", "increment X 5", "increment self 5",
                     "increment x y", "increment x 5 ", "increment", " add x", "name: a", "leaf: a", "replace x1", "increment 5 x"):
            with self.subTest(line):
                self.check_script("modify: a\n" + line, 2)
                if not line.startswith("= "):
                    self.check_script("modify: a\nadd b\n= c\n" + line, 4)
                self.check_script("modify: a\nincrement b 5\n" + line, 3)
        for line in ("=", "= ", "=x", " = x", "== x"):
            self.check_script("modify: a\nadd b\n" + line, 3)
            self.check_script("modify: a\ndelete b\n= c\n" + line, 4)
        self.check_read("modify: a\nadd b\n=  ")

    def test_add(self):
        self.check_script("add: a=b\nc", 2)
        self.check_script("add: a=b\nc: d\ne: f\nc: d", 4)
        self.check_script("add: a=b\nadd c", 2)
        self.check_read("add: a=b\nadd: c")


class TestChangedTexts(LineTest):

    def check(self, text, start, function, *arguments):
        """A text is read, or the line is told that a plain reader finds."""
        told, line = outcome(function, *arguments, text), first_bad(text, start)
        if line is None:
            self.assertNotEqual(told[0] if isinstance(told, tuple) and told else None, "BadText", text)
        else:
            self.assertEqual(told, bad(line), text)
        return line is None

    def test_scripts(self):
        read_ones = [self.check("\n".join(rows), "deed", read_script) for rows in changed(SCRIPT)]
        self.assertGreater(min(read_ones.count(True), read_ones.count(False)), 200)

    def test_directories(self):
        # Schemas are looked at only once the text was read.
        read_ones = [self.check("\n".join(rows), "entry", read, tree_schema()) for rows in changed(TWO + "\n\n" + SAME)]
        self.assertGreater(min(read_ones.count(True), read_ones.count(False)), 80)

    def test_entries(self):
        for rows in changed(SAME):
            text = "\n".join(rows)
            line = first_bad(text, "entry")
            # An empty line cannot stand in the text of an entry.
            numbers = [number for number, row in enumerate(text.split("\n"), 1) if row == "" or number == line]
            told = outcome(read_entry, text)
            if numbers:
                self.assertEqual(told, bad(numbers[0]), text)
            else:
                self.assertIsInstance(told, Entry, text)

    def test_the_plain_reader(self):
        for text, line in ((SCRIPT, None), ("", None), ("x", 1), ("delete: a\n", 3), ("rename: a", 2), ("add: a=b\nc: d\ne: f\nc: d", 4)):
            self.assertEqual(first_bad(text, "deed"), line)


if __name__ == "__main__":
    unittest.main()
