"""The session of "Worked examples" in the document, whole."""

import importlib
import unittest

FILES = ("errors", "values", "names", "schemas", "entries", "filters", "directories", "indexes", "searching", "federations",
         "replicas", "texts")
SESSION = r"""
>>> tracked = Attribute("boss", "name", tracked=True)
>>> attributes = (Attribute("cn"), Attribute("ou"), Attribute("age", "integer", single=True), tracked, Attribute("team", "name", mirror="boss"))
>>> person = ObjectClass("person", must=("cn",), may=("age", "boss", "team"), under=("unit",))
>>> schema = Schema(attributes, (ObjectClass("unit", must=("ou",)), person))
>>> unit = Entry("ou=a", kind=("unit",), ou=("a",))
>>> ann = Entry("cn=Ann,ou=a", kind=("person",), cn=("Ann",), age=("30",))
>>> bob = Entry("cn=Bob,ou=a", kind=("person",), cn=("Bob",), boss=("cn=ann,ou=A",))
>>> directory = Directory(schema, (unit, ann, bob))
>>> directory["cn=bob,ou=a"]["boss"], directory["cn=Ann,ou=a"]["team"]
(('cn=Ann,ou=a',), ('cn=Bob,ou=a',))
>>> directory.rename("cn=ann,ou=a", "cn=Eva")
('cn=Ann,ou=a', 'cn=Bob,ou=a', 'cn=Eva,ou=a')
>>> directory["cn=bob,ou=a"]["boss"], directory["cn=eva,ou=a"]["cn"]
(('cn=Eva,ou=a',), ('Eva',))
>>> directory.modify("cn=bob,ou=a", (("add", "age", ("40",)), ("add", "age", ("41",))))
TooManyValues('age')
>>> directory.modify("cn=bob,ou=a", (("increment", "age", 1),))
NoValue('age', '')
>>> directory.add_entry(Entry("cn=Joe", kind=("person",), cn=("Joe",)))
BadPlace('cn=Joe')
>>> directory.delete("cn=eva,ou=a"), directory.undoable
(('cn=Bob,ou=a', 'cn=Eva,ou=a'), 2)
>>> directory.undo()
>>> "CN=Eva,ou=a" in directory, "cn=EVA,ou=a" in directory
(False, True)
>>> [entry.name.text for entry in search(directory, "ou=a", "one", "(age>=20)").entries]
['cn=Eva,ou=a']
>>> search(directory, "", "subtree", "(kind=person)", words=("cn",), order=("-cn",))[0].words
('cn',)
>>> paging = Paging(directory, 1, "", "subtree", "(kind=person)")
>>> len(paging.page()), paging.left
(1, 1)
>>> add_index(directory, "cn", "pieces")
>>> candidates(directory, "(&(cn=*eva*)(age=30))"), candidates(directory, "(cn=e*a)")
(('cn=Eva,ou=a',), None)
>>> Equal("age", "x").result(schema, ann), read_filter("(!(age=31))").result(schema, ann)
(None, True)
>>> read_filter("(&(cn=a)(&(cn=b)(cn=a)))").simplified().text
'(&(cn=a)(cn=b))'
>>> read_filter("(cn=")
BadFilter(4)
>>> Name("cn=A\\, b+ou=x,o=c").normal, Name("cn=x,ou=a").moved(Name("ou=A"), Name("o=b")).text
('cn=a\\, b+ou=x,o=c', 'cn=x,o=b')
>>> Name("cn=a, ou=b")
BadName('cn=a, ou=b')
>>> other = Directory(schema, (Entry("ou=x", kind=("referral",), ou=("x",), ref=("west/ou=a",)),))
>>> targets_for(other, "cn=Bob,ou=x")
('west/cn=Bob,ou=a',)
>>> found, dead = Federation(east=other, west=directory).search("east", "", "subtree", "(cn=*)")
>>> [(host, entry.name.text) for host, entry in found], dead
([('west', 'cn=Bob,ou=a'), ('west', 'cn=Eva,ou=a')], ())
>>> west, east = Replica("west", schema), Replica("east", schema)
>>> west.add_entry(unit), east.pull(west), west.add_entry(ann)
((1, 'west'), 1, (2, 'west'))
>>> east.add_entry(Entry("cn=ANN,ou=a", kind=("person",), cn=("ANN",)))
(2, 'east')
>>> west.pull(east), east.pull(west), west.as_directory() == east.as_directory()
(1, 1, True)
>>> west.conflicts, west.name_of((2, "west"))
((((2, 'west'), 'dup'),), 'cn=Ann+dup=2-west,ou=a')
>>> entry_text(unit)
'name: ou=a\nkind: unit\nou: a'
>>> read_script("delete: cn=a\n\nmodify: cn=b\nadd age\n= 5\nincrement age 2")
(('delete', 'cn=a'), ('modify', 'cn=b', (('add', 'age', ('5',)), ('increment', 'age', 2))))
"""


def own_names():
    """What the files of the package define."""
    found = {}
    for word in FILES:
        module = importlib.import_module(f"dirservice.{word}")
        found |= {name: one for name, one in vars(module).items() if getattr(one, "__module__", "") == module.__name__}
    return found


def steps():
    """The lines of code, each with what is shown for it."""
    for part in SESSION.strip("\n").split(">>> ")[1:]:
        code, _, shown = part.strip("\n").partition("\n")
        yield code, shown


def shown_for(code, names):
    """What is shown for a line of code."""
    try:
        try:
            result = eval(code, names)
        except SyntaxError:
            exec(code, names)
            result = None
    except Exception as error:
        return repr(error)
    return "" if result is None else repr(result)


class TestSession(unittest.TestCase):

    def test_each_line(self):
        names = own_names()
        count = 0
        for code, shown in steps():
            self.assertEqual(shown_for(code, names), shown, code)
            count += 1
        self.assertEqual(count, SESSION.count(">>> "))
        self.assertEqual(count, 39)


if __name__ == "__main__":
    unittest.main()
