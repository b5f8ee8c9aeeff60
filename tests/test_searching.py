"""Points [20] to [23], what [25] says of searches, and search of the interface of dirservice/searching.py."""

import unittest

from dirservice.directories import Directory
from dirservice.entries import Entry
from dirservice.errors import Referral
from dirservice.filters import All, Equal, Not, Present
from dirservice.indexes import add_index, drop_index
from dirservice.names import Name
from dirservice.schemas import Schema
from dirservice.searching import SCOPES, Result, how_many, search
from tests.samples import outcome, words_of
from tests.trees import ATTRIBUTES, NAMES, TreeTest, facts_of, given, no_entry, person, referral, tree, tree_schema, unit, values_of

A, ANN, BOB, B, CID, Z = NAMES
NO_SCOPES = (None, True, 1, "", "Base", "sub", "subtree ", ("base",), ["base"], {}, b"base")
NO_NUMBERS = (0, -1, True, False, "1", "", (1,), [1], b"1", 1.0)


def found(directory, *arguments, **options):
    """The texts of the names of what a search finds."""
    return tuple(entry.name.text for entry in search(directory, *arguments, **options).entries)


def looked(directory, *arguments, **options):
    return search(directory, *arguments, **options).looked


class SearchTest(TreeTest):

    def check(self, expected, directory, *arguments, **options):
        """A search is refused, by both functions, and changes nothing."""
        before = facts_of(directory)
        self.assertEqual(outcome(search, directory, *arguments, **options), expected)
        if not set(options) & {"words", "order", "limit"}:
            self.assertEqual(outcome(how_many, directory, *arguments, **options), expected)
        self.assertEqual(facts_of(directory), before)


class TestScopes(SearchTest):

    def test_the_constant(self):
        self.assertEqual(SCOPES, ("base", "one", "below", "subtree"))
        self.assertIs(type(SCOPES), tuple)

    def test_every_scope_of_every_base(self):
        below = {"": NAMES, A: (ANN, BOB, B, CID), B: (CID,)}
        straight = {"": (A, Z), A: (ANN, BOB, B), B: (CID,)}
        for base in NAMES + ("",):
            own = (base,) if base else ()
            for text in (base, base.upper().replace("OU=", "ou=").replace("CN=", "cn="), base.lower(), Name(base)):
                with self.subTest(base=text):
                    self.assertEqual(found(tree(), text, "base"), own)
                    self.assertEqual(found(tree(), text, "one"), straight.get(base, ()))
                    self.assertEqual(found(tree(), text, "below"), below.get(base, ()))
                    self.assertEqual(found(tree(), text, "subtree"), own + below.get(base, ()))
                    self.assertEqual(found(tree(), text), own + below.get(base, ()))

    def test_a_name_that_begins_alike_is_not_below(self):
        directory = tree(unit("ou=AB"), unit("ou=x,ou=AB"), unit("ou=A,ou=Z"))
        self.assertEqual(found(directory, "ou=a"), (A, ANN, BOB, B, CID))
        self.assertEqual(found(directory, "ou=a", "one"), (ANN, BOB, B))

    def test_the_empty_name_needs_no_entry(self):
        for scope in SCOPES:
            result = search(Directory(tree_schema()), "", scope)
            self.assertEqual((result.entries, result.references, result.looked, len(result)), ((), (), 0, 0))

    def test_a_missing_base(self):
        for scope in SCOPES:
            for manage in (False, True):
                self.check(no_entry("ou=Q"), tree(), "ou=Q", scope, manage=manage)
                self.check(no_entry("cn=x,cn=BOB,ou=a", BOB), tree(), "cn=x,cn=BOB,ou=a", scope, manage=manage)
                self.check(no_entry("cn=x,ou=q,ou=a", A), tree(), Name("cn=x,ou=q,ou=a"), scope, manage=manage)
                self.check(no_entry("ou=b"), tree(), "ou=b", scope, manage=manage)

    def test_no_scopes(self):
        for scope in NO_SCOPES:
            with self.subTest(scope):
                self.check(given("BadScope", scope), tree(), "", scope)


class TestWhatIsFound(SearchTest):

    def test_filters_as_texts_and_as_filters(self):
        cases = {"(kind=person)": (ANN, BOB, CID), "(kind=deputy)": (CID,), "(cn=ANN)": (ANN,), "(age>=30)": (ANN,),
                 "(age>=31)": (), "(luck<=-4)": (BOB,), "(mail=*wo t*)": (CID,), "(!(cn=*))": (A, B, Z), "(&)": NAMES,
                 "(|)": (), "(none=*)": (), "(!(none=*))": (), "(!(cn>=x)": None, "(boss=cn=ann,ou=A)": (BOB, CID)}
        for text, names in cases.items():
            with self.subTest(text):
                if names is None:
                    self.check(("BadFilter", {"place": len(text)}), tree(), "", "subtree", text)
                else:
                    self.assertEqual(found(tree(), "", "subtree", text), names)
                    self.assertEqual(how_many(tree(), "", "subtree", text), len(names))
        self.assertEqual(found(tree(), "", "subtree", Equal("cn", "Ann")), (ANN,))
        self.assertEqual(found(tree(), "", "subtree", Not(Present("cn"))), (A, B, Z))
        self.assertEqual(how_many(tree(), "ou=A", "one", All()), 3)

    def test_only_true_is_found(self):
        # None and False are not.
        self.assertEqual(found(tree(), "", "subtree", "(boss>=cn=ann,ou=A)"), ())
        self.assertEqual(found(tree(), "", "subtree", "(!(boss>=cn=ann,ou=A))"), ())
        self.assertEqual(found(tree(), "", "subtree", "(|(luck=x)(cn=Bob))"), (BOB,))

    def test_mirrors_are_compared_and_returned(self):
        self.assertEqual(found(tree(), "", "subtree", "(team=*)"), (ANN, BOB))
        self.assertEqual(found(tree(), "", "subtree", "(mates=cn=ann,ou=A)"), (ANN,))
        result = search(tree(), "ou=A", "one")
        self.holds(result[0], team=(BOB, CID), crew=(BOB, CID), mates=(ANN,), peer=(ANN,), age=("30",), cn=("Ann",))
        self.holds(result[1], team=(CID,), crew=(CID,), mates=(), boss=(ANN,), luck=("3", "-4"))
        self.holds(result[2], team=(), crew=(), mates=(), ou=("B",))
        for entry in search(tree(), "").entries:
            self.assertEqual(entry, tree()[entry.name])

    def test_the_order_of_names(self):
        names = ("ou=b", "ou=a", "ou=b,ou=b", "ou=a,ou=b", "ou=c", "ou=z,ou=a", "ou=10", "ou=9")
        directory = Directory(tree_schema(), (*map(unit, names), unit("ou=B\\, x", ou=("B, x",))))
        self.assertEqual(found(directory, ""), (
            "ou=10", "ou=9", "ou=a", "ou=z,ou=a", "ou=b", "ou=a,ou=b", "ou=b,ou=b", "ou=B\\, x", "ou=c"))

    def test_entries_are_returned_as_a_tuple(self):
        result = search(tree(), "ou=A")
        self.assertIsInstance(result, Result)
        self.assertIs(type(result.entries), tuple)
        self.assertIs(type(result.references), tuple)
        self.assertIs(type(result.looked), int)
        self.assertTrue(all(isinstance(entry, Entry) for entry in result.entries))
        self.assertEqual(len(result), 5)
        self.assertEqual([result[place].name.text for place in range(5)], [A, ANN, BOB, B, CID])
        with self.assertRaises(TypeError):
            iter(result)
        with self.assertRaises(TypeError):
            list(result)

    def test_a_result_stays_as_it_was(self):
        directory = tree()
        result = search(directory, "ou=A")
        directory.delete(CID)
        directory.rename("ou=A", "ou=New")
        self.assertEqual([entry.name.text for entry in result.entries], [A, ANN, BOB, B, CID])

    def test_arguments_by_name(self):
        result = search(directory=tree(), base="ou=A", scope="one", wanted="(cn=*)", words=("cn",), order=("-cn",), limit=2,
                        manage=True)
        self.assertEqual([values_of(entry) for entry in result.entries], [{"cn": ("Bob",)}, {"cn": ("Ann",)}])
        self.assertEqual(how_many(directory=tree(), base="ou=A", scope="one", wanted="(cn=*)", manage=True), 2)
        for options in (("(cn=*)", ("cn",)), ("(cn=*)", None, ())):
            with self.assertRaises(TypeError):
                search(tree(), "", "subtree", *options)
        with self.assertRaises(TypeError):
            how_many(tree(), "", "subtree", "(&)", True)
        with self.assertRaises(TypeError):
            how_many(tree(), "", limit=3)

    def test_nothing_is_changed(self):
        directory = tree(referral("ou=R", "west"))
        before = facts_of(directory)
        search(directory, "", order=("-cn", "ou"), words=("cn",))
        how_many(directory, "")
        self.assertEqual(facts_of(directory), before)


class TestWords(SearchTest):

    def values(self, words, base=BOB):
        return values_of(search(tree(), base, "base", words=words)[0])

    def test_all_some_and_none(self):
        self.assertEqual(self.values(None), values_of(tree()[BOB]))
        self.assertEqual(self.values(("cn",)), {"cn": ("Bob",)})
        self.assertEqual(self.values(("luck", "boss", "team")), {"luck": ("3", "-4"), "boss": (ANN,), "team": (CID,)})
        self.assertEqual(self.values(("kind", "ref", "dup")), {"kind": ("person",)})
        self.assertEqual(self.values(("mail", "age")), {})
        self.assertEqual(self.values(()), {})

    def test_the_same_one_twice(self):
        self.assertEqual(self.values(("cn", "luck", "cn")), {"cn": ("Bob",), "luck": ("3", "-4")})

    def test_names_stay(self):
        self.assertEqual(found(tree(), "", words=()), NAMES)
        self.assertEqual([entry.words for entry in search(tree(), "", words=("ou", "cn")).entries],
                         [("ou",), ("cn",), ("cn",), ("ou",), ("cn",), ("ou",)])

    def test_words_that_are_no_attributes(self):
        for word in ("none", "", "CN", "-cn", "person", "self", None, True, 5, ("cn",), ["cn"], {}, b"cn"):
            with self.subTest(word):
                self.check(("UnknownAttribute", {"attribute": word}), tree(), "", words=(word,))
                self.check(("UnknownAttribute", {"attribute": word}), tree(), "", words=("cn", word, "none"), order=("x",))


class TestOrder(SearchTest):

    def setUp(self):
        self.directory = Directory(tree_schema(), (
            unit("ou=A"), person("cn=a,ou=A", luck=("5", "-7"), mail=("b",)), person("cn=b,ou=A", luck=("10",)),
            person("cn=c,ou=A", age=("7",), mail=("B",)), person("cn=d,ou=A", luck=("-7", "9"), age=("30",), mail=("a", "z")),
            person("cn=e,ou=A", age=("7",)), person("cn=f,ou=A", kind=("tag", "person"), luck=("-10",))))

    def order(self, *keys, **options):
        names = found(self.directory, "ou=A", "one", order=keys, **options)
        return "".join(name[3] for name in names)

    def test_up_and_down(self):
        self.assertEqual(self.order(), "abcdef")
        self.assertEqual(self.order("cn"), "abcdef")
        self.assertEqual(self.order("-cn"), "fedcba")

    def test_the_least_value_and_the_greatest(self):
        # As integers: -10 < -7 = -7 < 10, and the greatest ones are 10, 9, 5, -10.
        self.assertEqual(self.order("luck"), "fadbce")
        self.assertEqual(self.order("-luck"), "bdafce")

    def test_those_without_values_come_last(self):
        self.assertEqual(self.order("age"), "cedabf")
        self.assertEqual(self.order("-age"), "dceabf")
        self.assertEqual(self.order("ou"), "abcdef")
        self.assertEqual(self.order("-ou", "-cn"), "fedcba")

    def test_normal_forms_are_compared(self):
        # "b" and "B" are equal, and so in the order of names.
        self.assertEqual(self.order("mail"), "dacbef")
        self.assertEqual(self.order("-mail"), "dacbef")
        self.assertEqual(self.order("mail", "-cn"), "dcafeb")

    def test_several_keys(self):
        self.assertEqual(self.order("age", "-cn"), "ecdfba")
        self.assertEqual(self.order("-age", "luck"), "dcefab")
        self.assertEqual(self.order("age", "luck", "-mail"), "cedfab")

    def test_the_same_word_twice(self):
        self.assertEqual(self.order("age", "-age"), "cedabf")
        self.assertEqual(self.order("age", "age", "-cn"), "ecdfba")
        self.assertEqual(self.order("luck", "-luck"), "fdabce")

    def test_kind(self):
        self.assertEqual(self.order("kind"), "abcdef")
        self.assertEqual(self.order("-kind"), "fabcde")
        self.assertEqual(found(tree(), "", order=("kind",)), (CID, ANN, BOB, A, B, Z))
        self.assertEqual(found(tree(), "", order=("-kind",)), (A, B, Z, ANN, BOB, CID))

    def test_attributes_that_are_not_asked_for(self):
        self.assertEqual(self.order("luck", words=("cn",)), "fadbce")
        self.assertEqual(self.order("-luck", words=()), "bdafce")

    def test_texts_of_integers_are_not_compared_as_texts(self):
        directory = Directory(tree_schema(), (unit("ou=A", luck=("9",)), unit("ou=B", luck=("10",)), unit("ou=C", luck=("-2",))))
        self.assertEqual(found(directory, "", order=("luck",)), ("ou=C", "ou=A", "ou=B"))

    def test_exact_values_are_compared_as_they_are(self):
        directory = Directory(tree_schema(), (unit("ou=A", code=("b",)), unit("ou=B", code=("C",)), unit("ou=C", code=("a",))))
        self.assertEqual(found(directory, "", order=("code",)), ("ou=B", "ou=C", "ou=A"))
        self.assertEqual(found(directory, "", order=("-code",)), ("ou=A", "ou=C", "ou=B"))

    def test_keys_that_are_no_attributes(self):
        for key in ("none", "", "CN", "person", None, True, 5, ("cn",), ["cn"], {}, b"-cn"):
            with self.subTest(key):
                self.check(("UnknownAttribute", {"attribute": key}), tree(), "", order=(key,))
                self.check(("UnknownAttribute", {"attribute": key}), tree(), "", order=("cn", "boss", key, "none"))
        for key in ("-none", "-", "--cn", "- cn", "-CN"):
            self.check(("UnknownAttribute", {"attribute": key[1:]}), tree(), "", order=("-boss", key, "none"))

    def test_keys_without_an_order(self):
        for key in ("boss", "team", "link", "open"):
            for sign in ("", "-"):
                with self.subTest(key, sign=sign):
                    self.check(("NoOrder", {"attribute": key}), tree(), "", order=("cn", sign + key, "peer"))
        # Words that are asked for need no order.
        self.assertEqual(found(tree(), "", words=("boss", "team", "open"), order=("cn", "ou")), (ANN, BOB, CID, A, B, Z))


class TestLimit(SearchTest):

    def test_just_enough_and_one_too_few(self):
        for count, wanted in ((6, "(&)"), (3, "(kind=person)"), (1, "(cn=Ann)")):
            for limit in (count, count + 1, 10 ** 999):
                self.assertEqual(len(search(tree(), "", "subtree", wanted, limit=limit)), count)
            if count > 1:
                self.check(("SizeLimit", {"limit": count - 1}), tree(), "", "subtree", wanted, limit=count - 1)
                self.check(("SizeLimit", {"limit": 1}), tree(), "", "subtree", wanted, limit=1)
        self.assertEqual(len(search(tree(), "", "subtree", "(|)", limit=1)), 0)
        self.assertEqual(len(search(tree(), "", limit=None)), 6)

    def test_references_do_not_count(self):
        directory = Directory(tree_schema(), (unit("ou=A"), referral("ou=R", "west"), referral("ou=S", "west")))
        result = search(directory, "", limit=1)
        self.assertEqual((len(result), len(result.references)), (1, 2))
        self.check(("SizeLimit", {"limit": 2}), directory, "", limit=2, manage=True)
        self.assertEqual(len(search(directory, "", limit=3, manage=True)), 3)

    def test_no_numbers(self):
        for limit in NO_NUMBERS:
            with self.subTest(limit):
                self.check(given("BadNumber", limit), tree(), "", limit=limit)


class TestReferrals(SearchTest):

    def directory(self):
        return Directory(tree_schema(), (
            unit("ou=A"), unit("ou=B,ou=A"), referral("ou=R,ou=A", "west", "east/", "mid/ou=X\\, y,ou=E"),
            referral("ou=S,ou=B,ou=A", "west/ou=W"), referral("ou=T", "east/ou=Q")))

    REFS = ("west/", "east/", "mid/ou=X\\, y,ou=E"), ("west/ou=W",), ("east/ou=Q",)

    def references(self, *arguments, **options):
        return search(self.directory(), *arguments, **options).references

    def test_each_scope(self):
        middle, deep, top = self.REFS
        self.assertEqual(self.references("", "subtree"), ((deep, "subtree"), (middle, "subtree"), (top, "subtree")))
        self.assertEqual(self.references("", "below"), ((deep, "subtree"), (middle, "subtree"), (top, "subtree")))
        self.assertEqual(self.references("", "one"), ((top, "base"),))
        self.assertEqual(self.references("", "base"), ())
        self.assertEqual(self.references("ou=a", "one"), ((middle, "base"),))
        self.assertEqual(self.references("ou=a"), ((deep, "subtree"), (middle, "subtree")))
        self.assertEqual(self.references("ou=b,ou=a", "below"), ((deep, "subtree"),))
        self.assertEqual(self.references("ou=a", "base"), ())

    def test_they_are_not_found_whatever_the_filter_is(self):
        for wanted in ("(&)", "(|)", "(kind=referral)", "(ref=*)", "(ou=B)", "(none=*)"):
            result = search(self.directory(), "", "subtree", wanted)
            self.assertEqual([targets for targets, _ in result.references], [self.REFS[1], self.REFS[0], self.REFS[2]])
            self.assertEqual([entry.name.text for entry in result.entries if "ref" in entry], [])
        self.assertEqual(found(self.directory(), ""), ("ou=A", "ou=B,ou=A"))
        self.assertEqual(how_many(self.directory(), ""), 2)

    def test_with_manage(self):
        for scope in SCOPES:
            self.assertEqual(self.references("", scope, manage=True), ())
        self.assertEqual(found(self.directory(), "", manage=True),
                         ("ou=A", "ou=B,ou=A", "ou=S,ou=B,ou=A", "ou=R,ou=A", "ou=T"))
        self.assertEqual(found(self.directory(), "", "subtree", "(ref=east/)", manage=True), ("ou=R,ou=A",))
        self.assertEqual(found(self.directory(), "ou=T", "base", manage=True), ("ou=T",))
        self.assertEqual(found(self.directory(), "ou=T", "below", manage=True), ())
        self.assertEqual(how_many(self.directory(), "", manage=True), 5)

    def test_a_base_at_or_below_a_referral(self):
        for scope in SCOPES:
            self.check(("Referral", {"targets": ("east/ou=Q",)}), self.directory(), "ou=t", scope)
            self.check(("Referral", {"targets": ("west/", "east/", self.REFS[0][2])}), self.directory(), Name("ou=r,ou=a"), scope)
            for manage in (False, True):
                self.check(("Referral", {"targets": ("west/cn=X,ou=W",)}), self.directory(), "cn=X,ou=s,ou=b,ou=a", scope,
                           manage=manage)
            self.assertEqual(found(self.directory(), "ou=t", scope, manage=True), ("ou=T",) * (scope in ("base", "subtree")))

    def test_targets_that_would_be_too_long_are_left_out(self):
        deep = ",".join(f"x={letter}" for letter in "abcdefghijk")
        directory = Directory(tree_schema(), (referral("ou=R", f"west/{deep}", f"west/x=k,{deep}", "east"),))
        self.assertEqual(search(directory, "").references, (((f"west/{deep}", f"west/x=k,{deep}", "east/"), "subtree"),))
        self.check(("Referral", {"targets": (f"west/cn=x,{deep}", "east/cn=x")}), directory, "cn=x,ou=r")
        self.check(("Referral", {"targets": ("east/cn=x,cn=y",)}), directory, "cn=x,cn=y,ou=r")
        only = Directory(tree_schema(), (referral("ou=R", f"west/{deep}"),))
        self.check(("Referral", {"targets": ()}), only, "cn=x,cn=y,ou=r")
        with self.assertRaises(Referral):
            search(only, "cn=x,cn=y,ou=r")

    def test_references_do_not_follow_keys(self):
        self.assertEqual(self.references("", order=("-ou",), words=()), self.references(""))


class TestErrorsInOrder(SearchTest):

    def test_the_first_error_in_the_order_listed(self):
        directory = tree(referral("ou=R", "west"))
        steps = (
            (("no name", "bad", "bad"), {"words": ("x",), "order": ("y",), "limit": 0}, given("BadName", "no name")),
            (("ou=R", "bad", "bad"), {"words": ("x",), "order": ("y",), "limit": 0}, given("BadScope", "bad")),
            (("ou=R", "base", "bad"), {"words": ("x",), "order": ("y",), "limit": 0}, ("BadFilter", {"place": 0})),
            (("ou=R", "base", "(&)"), {"words": ("x",), "order": ("y",), "limit": 0}, ("UnknownAttribute", {"attribute": "x"})),
            (("ou=R", "base", "(&)"), {"order": ("boss", "-y"), "limit": 0}, ("UnknownAttribute", {"attribute": "y"})),
            (("ou=R", "base", "(&)"), {"order": ("cn", "-boss"), "limit": 0}, ("NoOrder", {"attribute": "boss"})),
            (("ou=R", "base", "(&)"), {"limit": 0}, given("BadNumber", 0)),
            (("ou=x,ou=R", "base", "(&)"), {}, ("Referral", {"targets": ("west/ou=x",)})),
            (("ou=q", "base", "(&)"), {"limit": 1}, no_entry("ou=q")),
            (("", "subtree", "(&)"), {"limit": 1}, ("SizeLimit", {"limit": 1})),
        )
        for arguments, options, expected in steps:
            with self.subTest(expected):
                self.check(expected, directory, *arguments, **options)

    def test_no_names(self):
        for base in (None, True, 5, "ou", "ou=", " ", ("ou=A",), ["ou=A"], {}, b"ou=A", tree()):
            self.check(given("BadName", base), tree(), base)

    def test_no_filters(self):
        for wanted in (None, True, 5, ("(&)",), ["(&)"], {}, b"(&)", All):
            self.check(("BadFilter", {"place": None}), tree(), "", "subtree", wanted)
        self.check(("BadFilter", {"place": 4}), tree(), "", "subtree", "(cn=")


class TestLooked(SearchTest):

    def test_with_no_index(self):
        for wanted in ("(&)", "(cn=Ann)", "(|)", "(none=x)"):
            self.assertEqual([looked(tree(), "", scope, wanted) for scope in SCOPES], [0, 2, 6, 6] if wanted != "(|)" else [0] * 4)
            self.assertEqual([looked(tree(), "ou=A", scope, wanted) for scope in SCOPES],
                             [1, 3, 4, 5] if wanted != "(|)" else [0] * 4)

    def test_with_one_index(self):
        directory = tree()
        add_index(directory, "cn", "equal")
        self.assertEqual([looked(directory, "", scope, "(cn=ANN)") for scope in SCOPES], [0, 0, 1, 1])
        self.assertEqual([looked(directory, "ou=a", scope, "(cn=ANN)") for scope in SCOPES], [0, 1, 1, 1])
        self.assertEqual([looked(directory, ANN, scope, "(cn=ANN)") for scope in SCOPES], [1, 0, 0, 1])
        self.assertEqual(looked(directory, "", "subtree", "(&(cn=ann)(age=31))"), 1)
        self.assertEqual(found(directory, "", "subtree", "(&(cn=ann)(age=31))"), ())
        self.assertEqual(looked(directory, "", "subtree", "(|(cn=ann)(cn=bob))"), 2)
        # What no index knows.
        for wanted in ("(cn=*)", "(cn=a*)", "(!(cn=ann))", "(|(cn=ann)(ou=A))", "(ou=A)", "(&)"):
            self.assertEqual(looked(directory, "", "subtree", wanted), 6)
        drop_index(directory, "cn", "equal")
        self.assertEqual(looked(directory, "", "subtree", "(cn=ANN)"), 6)

    def test_candidates_that_are_known_to_be_none(self):
        directory = tree()
        self.assertEqual(looked(directory, "", "subtree", "(|)"), 0)
        add_index(directory, "cn", "equal")
        for wanted in ("(cn=x)", "(&(cn=x)(ou=A))", "(&(cn=ann)(cn=bob))", "(|(cn=x)(cn=y))"):
            self.assertEqual(looked(directory, "", "subtree", wanted), 0)
            self.assertEqual(found(directory, "", "subtree", wanted), ())

    def test_more_may_be_looked_at_than_found(self):
        directory = tree()
        add_index(directory, "cn", "pieces")
        directory.modify(BOB, (("add", "cn", ("xaby", "bcax")),))
        result = search(directory, "", "subtree", "(cn=*xab*bca*)")
        self.assertEqual((result.looked, len(result)), (1, 0))

    def test_filters_are_taken_as_they_are_passed(self):
        directory = tree()
        add_index(directory, "cn", "equal")
        self.assertEqual(looked(directory, "", "subtree", "(!(!(cn=ann)))"), 6)

    def test_entries_of_referral_are_looked_at(self):
        directory = tree(referral("ou=R", "west"), referral("ou=R,ou=A", "west"))
        self.assertEqual([looked(directory, "", scope) for scope in SCOPES], [0, 3, 8, 8])
        self.assertEqual(looked(directory, "", manage=True), 8)
        add_index(directory, "ou", "equal")
        result = search(directory, "", "subtree", "(ou=r)")
        self.assertEqual((result.looked, len(result), len(result.references)), (2, 0, 2))
        self.assertEqual(looked(directory, "", "one", "(ou=r)"), 1)
        self.assertEqual(search(directory, "", "subtree", "(ou=r)", manage=True).looked, 2)
        # All in the scope give references, also those that are no candidates.
        result = search(directory, "", "subtree", "(ou=b)")
        self.assertEqual((result.looked, len(result), len(result.references)), (1, 1, 2))

    def test_what_is_looked_at_has_its_mirrors(self):
        directory = tree()
        add_index(directory, "team", "equal")
        result = search(directory, "", "subtree", f"(team={BOB})")
        self.assertEqual((result.looked, [entry.name.text for entry in result.entries]), (1, [ANN]))
        directory.rename(BOB, "cn=New")
        self.assertEqual(search(directory, "", "subtree", f"(team={BOB})").looked, 0)
        self.holds(search(directory, "", "subtree", "(team=cn=new,ou=A)")[0], team=("cn=New,ou=A", CID))


class TestManyEntries(unittest.TestCase):

    def test_as_many_as_there_may_be(self):
        directory = Directory(Schema(ATTRIBUTES, tree_schema().classes),
                              tuple(unit(f"ou={word}", luck=(str(place),)) for place, word in enumerate(words_of(300))))
        names = tuple(f"ou={word}" for word in words_of(300))
        self.assertEqual(found(directory, ""), names)
        self.assertEqual(found(directory, "", order=("-luck",), limit=300), names[::-1])
        self.assertEqual(found(directory, "", "subtree", "(&" + "(luck>=150)" * 59 + ")"), names[150:])


if __name__ == "__main__":
    unittest.main()
