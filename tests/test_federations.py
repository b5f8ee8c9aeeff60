"""Points [17] to [19] and the interface of dirservice/federations.py."""

import itertools
import random
import unittest

from dirservice.directories import Directory
from dirservice.errors import NoEntry, Referral
from dirservice.federations import Federation, targets_for
from dirservice.filters import All, Equal
from dirservice.names import Name
from dirservice.searching import SCOPES, search
from tests.samples import outcome
from tests.test_searching import NO_SCOPES
from tests.trees import TreeTest, facts_of, given, person, referral, tree, tree_schema, unit, values_of

NO_HOSTS = ("", "West", "west1", "self", "toolongone", "we st", "west/", None, True, 5, ("west",), ["west"], {}, b"west")


def place(*entries):
    return Directory(tree_schema(), entries)


def told(federation, *arguments):
    """What a search finds, as pairs of texts, and the dead targets."""
    found, dead = federation.search(*arguments)
    return [f"{host}/{entry.name.text}" for host, entry in found], dead


class FederationTest(TreeTest):

    def check(self, federation, arguments, found, dead=()):
        self.assertEqual(told(federation, *arguments), (list(found), dead))


class TestHosts(FederationTest):

    def test_directories_by_hosts(self):
        west, east = tree(), place()
        federation = Federation(west=west, east=east)
        self.assertEqual(federation.hosts, ("east", "west"))
        self.assertTrue(federation["west"] is west and federation["east"] is east)
        self.assertEqual(Federation().hosts, ())
        self.assertEqual(Federation(abcdefgh=west, a=west).hosts, ("a", "abcdefgh"))
        self.assertEqual(Federation(host=east, base=west).hosts, ("base", "host"))

    def test_no_hosts(self):
        for host in NO_HOSTS:
            with self.subTest(host):
                federation = Federation(west=tree())
                if isinstance(host, str) and host != "self":
                    self.assertEqual(outcome(Federation, **{host: tree()}), given("BadHost", host))
                    self.assertEqual(outcome(Federation, **{"west": tree(), host: tree(), "X": tree()}), given("BadHost", host))
                self.assertEqual(outcome(federation.__setitem__, host, tree()), given("BadHost", host))
                self.assertEqual(outcome(federation.__getitem__, host), ("NoHost", {"host": host}))
                self.assertEqual(outcome(federation.search, host, ""), ("NoHost", {"host": host}))
                self.assertEqual(federation.hosts, ("west",))

    def test_hosts_that_are_not_there(self):
        federation = Federation(west=tree())
        for host in ("east", "wes", "wests"):
            self.assertEqual(outcome(federation.__getitem__, host), ("NoHost", {"host": host}))
            self.assertEqual(outcome(federation.search, host, ""), ("NoHost", {"host": host}))

    def test_a_directory_is_added_or_exchanged(self):
        old, new = place(unit("ou=Old")), place(unit("ou=New"))
        federation = Federation(west=old)
        federation["east"] = new
        self.assertEqual(federation.hosts, ("east", "west"))
        self.check(federation, ("west", ""), ["west/ou=Old"])
        federation["west"] = new
        self.assertEqual(federation.hosts, ("east", "west"))
        self.assertTrue(federation["west"] is new)
        self.check(federation, ("west", ""), ["west/ou=New"])
        self.assertEqual(len(old), 1)

    def test_directories_are_searched_as_they_are(self):
        directory = place(unit("ou=A"))
        federation = Federation(west=directory)
        directory.add_entry(unit("ou=B"))
        self.check(federation, ("west", ""), ["west/ou=A", "west/ou=B"])
        directory.undo()
        self.check(federation, ("west", ""), ["west/ou=A"])

    def test_later_changes_of_the_dict_have_no_effect(self):
        given_ones = {"west": tree()}
        federation = Federation(**given_ones)
        given_ones.clear()
        self.assertEqual(federation.hosts, ("west",))

    def test_it_is_not_iterated(self):
        with self.assertRaises(TypeError):
            iter(Federation(west=tree()))


class TestSearch(FederationTest):

    def test_one_directory(self):
        federation = Federation(west=tree(), east=place())
        self.check(federation, ("west", ""), ["west/ou=A", "west/cn=Ann,ou=A", "west/cn=Bob,ou=A", "west/ou=B,ou=A",
                                              "west/cn=Cid,ou=B,ou=A", "west/ou=Z"])
        self.check(federation, ("west", "ou=a", "one", "(cn=*)"), ["west/cn=Ann,ou=A", "west/cn=Bob,ou=A"])
        self.check(federation, ("west", Name("ou=B,ou=a"), "base", Equal("ou", "b")), ["west/ou=B,ou=A"])
        self.check(federation, ("west", "ou=A", "below", All()), ["west/cn=Ann,ou=A", "west/cn=Bob,ou=A", "west/ou=B,ou=A",
                                                                  "west/cn=Cid,ou=B,ou=A"])
        self.check(federation, ("east", ""), [])

    def test_kinds_of_values(self):
        result = Federation(west=tree()).search(host="west", base="cn=Ann,ou=A", scope="base", wanted="(&)")
        self.assertIs(type(result), tuple)
        found, dead = result
        self.assertEqual((type(found), type(dead), len(found), dead), (tuple, tuple, 1, ()))
        self.assertEqual((type(found[0]), found[0][0]), (tuple, "west"))
        self.assertEqual(found[0][1], tree()["cn=Ann,ou=A"])
        self.holds(found[0][1], team=("cn=Bob,ou=A", "cn=Cid,ou=B,ou=A"))

    def test_errors_in_their_order(self):
        federation = Federation(west=tree())
        self.assertEqual(outcome(federation.search, "x", "no name", "bad", "bad"), ("NoHost", {"host": "x"}))
        self.assertEqual(outcome(federation.search, "west", "no name", "bad", "bad"), given("BadName", "no name"))
        self.assertEqual(outcome(federation.search, "west", "ou=q", "bad", "bad"), given("BadScope", "bad"))
        self.assertEqual(outcome(federation.search, "west", "ou=q", "one", "bad"), ("BadFilter", {"place": 0}))
        for base in (None, 5, ("ou=A",), "ou=", "west/ou=A"):
            self.assertEqual(outcome(federation.search, "west", base), given("BadName", base))
        for scope in NO_SCOPES:
            self.assertEqual(outcome(federation.search, "west", "", scope), given("BadScope", scope))
        for wanted in (None, 5, ("(&)",), b"(&)"):
            self.assertEqual(outcome(federation.search, "west", "", "one", wanted), ("BadFilter", {"place": None}))
        self.assertEqual(outcome(federation.search, "west", "", "one", "(cn="), ("BadFilter", {"place": 4}))

    def test_nothing_is_changed(self):
        west, east = tree(referral("ou=R", "east")), place(unit("ou=E"))
        federation = Federation(west=west, east=east)
        before = facts_of(west), facts_of(east)
        federation.search("west", "")
        federation.search("west", "ou=q")
        self.assertEqual((facts_of(west), facts_of(east)), before)
        self.assertEqual(told(federation, "west", "ou=R"), told(federation, "west", "ou=R"))


class TestVisits(FederationTest):

    def test_a_missing_base_is_dead(self):
        federation = Federation(west=tree())
        for scope in SCOPES:
            self.check(federation, ("west", "ou=Q,ou=a", scope), [], ("west/ou=Q,ou=a",))
            self.check(federation, ("west", Name("cn=X\\, y"), scope), [], ("west/cn=X\\, y",))
        self.check(federation, ("west", ""), told(federation, "west", "")[0])

    def test_a_referral_is_followed(self):
        federation = Federation(west=place(unit("ou=A"), referral("ou=R,ou=A", "east/ou=E")),
                                east=place(unit("ou=E"), unit("ou=x,ou=E"), unit("ou=F")))
        self.check(federation, ("west", "ou=r,ou=a"), ["east/ou=E", "east/ou=x,ou=E"])
        self.check(federation, ("west", "ou=r,ou=a", "one"), ["east/ou=x,ou=E"])
        self.check(federation, ("west", "ou=X,ou=r,ou=a", "base"), ["east/ou=x,ou=E"])
        self.check(federation, ("west", "ou=y,ou=r,ou=a"), [], ("west/ou=y,ou=r,ou=a",))

    def test_the_next_target_is_tried(self):
        # No such host, no such entry, and then one that is there: what comes behind it is not tried.
        federation = Federation(west=place(referral("ou=R", "none/ou=E", "east/ou=Q", "east/ou=E", "east/ou=F")),
                                east=place(unit("ou=E"), unit("ou=F")))
        self.check(federation, ("west", "ou=R"), ["east/ou=E"])
        self.check(federation, ("west", ""), ["east/ou=E"])

    def test_told_targets_come_before_the_next_ones(self):
        federation = Federation(west=place(referral("ou=R", "mid/ou=M", "east/ou=F")),
                                mid=place(referral("ou=M", "none/", "east/ou=E")),
                                east=place(unit("ou=E"), unit("ou=F")))
        self.check(federation, ("west", "ou=R"), ["east/ou=E"])
        federation["mid"] = place(referral("ou=M", "none/", "east/ou=Q"))
        self.check(federation, ("west", "ou=R"), ["east/ou=F"])

    def test_told_targets_that_wait_are_not_put_before(self):
        west = place(referral("ou=R", "mid/ou=M", "east/ou=F"))
        federation = Federation(west=west, mid=place(referral("ou=M", "east/ou=f", "east/ou=E")),
                                east=place(unit("ou=E"), unit("ou=F")))
        self.check(federation, ("west", "ou=R"), ["east/ou=E"])
        # Another host or another name is another target.
        federation["mid"] = place(referral("ou=M", "far/ou=f", "east/ou=E"))
        federation["far"] = place(unit("ou=F"))
        self.check(federation, ("west", "ou=R"), ["far/ou=F"])

    def test_referrals_that_name_themselves_or_one_another(self):
        federation = Federation(west=place(referral("ou=R", "west/ou=R"), referral("ou=S", "east/ou=S"), unit("ou=A")),
                                east=place(referral("ou=S", "west/ou=s", "west/ou=A")))
        self.check(federation, ("west", "ou=R"), [], ("west/ou=R",))
        self.check(federation, ("west", "ou=r"), [], ("west/ou=r",))
        # Each deeper name would be found in a ring, too.
        self.check(federation, ("west", "ou=x,ou=R"), [], ("west/ou=x,ou=R",))
        self.check(federation, ("west", "ou=S"), ["west/ou=A"])
        self.check(federation, ("west", ""), ["west/ou=A"], ("west/ou=R",))
        federation["east"] = place(referral("ou=S", "west/ou=S"))
        self.check(federation, ("west", "ou=S"), [], ("west/ou=S",))

    def test_a_ring_of_references(self):
        federation = Federation(west=place(unit("ou=A"), referral("ou=R,ou=A", "east")),
                                east=place(unit("ou=E"), referral("ou=S,ou=E", "west")))
        self.check(federation, ("west", ""), ["west/ou=A", "east/ou=E"])
        self.check(federation, ("east", ""), ["east/ou=E", "west/ou=A"])
        self.check(federation, ("west", "ou=A"), ["west/ou=A", "east/ou=E"])
        federation["west"] = place(unit("ou=A"), referral("ou=R,ou=A", "west"))
        self.check(federation, ("west", ""), ["west/ou=A"])

    def test_a_visit_ends_at_a_target_that_was_searched(self):
        # The second reference leads to what was searched already, so it is not dead, and what follows is not tried.
        federation = Federation(west=place(referral("ou=R", "east/ou=E"), referral("ou=S", "none/", "east/ou=e", "east/ou=F")),
                                east=place(unit("ou=E"), unit("ou=F")))
        self.check(federation, ("west", ""), ["east/ou=E"])
        # With another scope it was not searched.
        federation["west"] = place(referral("ou=S", "east/ou=E"), unit("ou=T"))
        federation["east"] = place(unit("ou=E"), unit("ou=x,ou=E"), referral("ou=y,ou=E", "east/ou=E", "east/ou=F"), unit("ou=F"))
        self.check(federation, ("west", "", "one"), ["west/ou=T", "east/ou=E"])
        self.check(federation, ("west", "", "subtree"), ["west/ou=T", "east/ou=E", "east/ou=x,ou=E"])
        self.check(federation, ("east", "ou=E", "one"), ["east/ou=x,ou=E", "east/ou=E"])
        self.check(federation, ("east", "ou=E", "below"), ["east/ou=x,ou=E", "east/ou=E"])

    def test_scopes_of_references(self):
        federation = Federation(west=place(unit("ou=A"), referral("ou=R,ou=A", "east/ou=E")),
                                east=place(unit("ou=E"), unit("ou=x,ou=E"), referral("ou=y,ou=E", "far")),
                                far=place(unit("ou=F")))
        self.check(federation, ("west", "ou=A", "base"), ["west/ou=A"])
        self.check(federation, ("west", "ou=A", "one"), ["east/ou=E"])
        self.check(federation, ("west", "ou=A", "below"), ["east/ou=E", "east/ou=x,ou=E", "far/ou=F"])
        self.check(federation, ("west", "ou=A", "subtree"), ["west/ou=A", "east/ou=E", "east/ou=x,ou=E", "far/ou=F"])
        self.check(federation, ("west", "ou=A", "subtree", "(ou=f)"), ["far/ou=F"])

    def test_references_become_visits_after_all_others(self):
        federation = Federation(
            west=place(referral("ou=a", "east"), referral("ou=b", "far")),
            east=place(unit("ou=E"), referral("ou=x,ou=E", "last")), far=place(unit("ou=F")), last=place(unit("ou=L")))
        self.check(federation, ("west", ""), ["east/ou=E", "far/ou=F", "last/ou=L"])

    def test_each_host_and_name_is_found_once(self):
        federation = Federation(west=place(unit("ou=A"), unit("ou=x,ou=A"), referral("ou=R", "east/ou=E")),
                                east=place(unit("ou=A"), referral("ou=E", "west/ou=a")))
        self.check(federation, ("west", ""), ["west/ou=A", "west/ou=x,ou=A"])
        federation["east"] = place(unit("ou=A"), unit("ou=E"), referral("ou=y,ou=E", "west/ou=A"), referral("ou=z,ou=E", "east/ou=A"))
        self.check(federation, ("west", ""), ["west/ou=A", "west/ou=x,ou=A", "east/ou=E", "east/ou=A"])

    def test_targets_that_differ_in_letters_only(self):
        names = ["x/ou=" + "".join(letters) for letters in itertools.product("aA", "bB", "cC", "dD", "eE")]
        # Twenty values, of which nineteen are the same target.
        federation = Federation(west=place(referral("ou=R", *names[:19], "east/ou=E")), east=place(unit("ou=E")))
        self.check(federation, ("west", "ou=R"), ["east/ou=E"])
        self.check(federation, ("west", "ou=r"), ["east/ou=E"])


class TestHowManyAreTried(FederationTest):

    def targets(self, count):
        """Values of `ref` for targets that are not there."""
        return [f"none/ou={number}" for number in range(count)]

    def test_in_the_first_visit(self):
        # The base itself is the first target that is tried.
        for count in (17, 18, 19):
            federation = Federation(west=place(referral("ou=R", *self.targets(count), "east/ou=E")), east=place(unit("ou=E")))
            found = ["east/ou=E"] if count + 2 <= 20 else []
            self.check(federation, ("west", "ou=R"), found, () if found else ("west/ou=R",))

    def test_in_the_visit_of_a_reference(self):
        for count in (18, 19):
            federation = Federation(west=place(referral("ou=R", *self.targets(count), "east/ou=E")), east=place(unit("ou=E")))
            self.check(federation, ("west", ""), ["east/ou=E"])
        # One of twenty tells one more, so that the last one would be the twenty-first.
        values = ["mid/ou=M"] + self.targets(18)
        federation = Federation(west=place(referral("ou=R", *values, "east/ou=E")), east=place(unit("ou=E")),
                                mid=place(referral("ou=M", "none/ou=q")))
        self.check(federation, ("west", ""), [], ("mid/ou=M",))
        federation["mid"] = place(referral("ou=M", "mid/ou=m", "none/ou=3"))
        self.check(federation, ("west", ""), ["east/ou=E"])
        federation["mid"] = place()
        self.check(federation, ("west", ""), ["east/ou=E"])

    def test_a_target_that_was_searched_counts_too(self):
        values = self.targets(19)
        federation = Federation(west=place(referral("ou=R", "east/ou=E"), referral("ou=S", *values, "east/ou=E")),
                                east=place(unit("ou=E")))
        self.check(federation, ("west", ""), ["east/ou=E"])
        federation["west"] = place(referral("ou=R", "east/ou=E"), referral("ou=S", "mid/ou=M", *values[1:], "east/ou=E"))
        federation["mid"] = place(referral("ou=M", "none/ou=q"))
        self.check(federation, ("west", ""), ["east/ou=E"], ("mid/ou=M",))


class TestDead(FederationTest):

    def test_in_the_order_of_the_visits_each_once(self):
        federation = Federation(
            west=place(referral("ou=a", "none/ou=Z", "none/ou=A"), referral("ou=b", "east"), referral("ou=c", "none/ou=A"),
                       referral("ou=d", "none/ou=Z"), referral("ou=e", "none/ou=z")),
            east=place(unit("ou=E"), referral("ou=f,ou=E", "east/ou=Q")))
        self.check(federation, ("west", ""), ["east/ou=E"], ("none/ou=Z", "none/ou=A", "none/ou=z", "east/ou=Q"))

    def test_the_first_target_is_told(self):
        federation = Federation(west=place(referral("ou=R", "east/ou=S")), east=place(referral("ou=S", "none/")))
        self.check(federation, ("west", "ou=r"), [], ("west/ou=r",))
        self.check(federation, ("west", ""), [], ("east/ou=S",))

    def test_a_target_without_a_name(self):
        federation = Federation(west=place(referral("ou=R", "none")))
        self.check(federation, ("west", ""), [], ("none/",))

    def test_names_that_would_be_too_long(self):
        deep = ",".join(f"x={letter}" for letter in "abcdefghijkl")
        federation = Federation(west=place(referral("ou=R", f"east/{deep}")), east=place())
        self.check(federation, ("west", "ou=x,ou=R"), [], ("west/ou=x,ou=R",))


class PlainFederation:
    """Point [19] once more, word by word."""

    def __init__(self, federation, host, base, scope, wanted):
        self.federation, self.wanted = federation, wanted
        self.ended, self.found, self.dead = [], [], []
        self.visits = [([f"{host}/{base}"], scope)]
        while self.visits:
            targets, scope = self.visits.pop(0)
            if not self.visit(list(targets), scope) and targets[0] not in self.dead:
                self.dead.append(targets[0])

    @staticmethod
    def same(one, other):
        (host, _, name), (there, _, text) = one.partition("/"), other.partition("/")
        return host == there and Name(name) == Name(text)

    def visit(self, waiting, scope):
        tried = []
        while waiting and len(tried) < 20:
            target = waiting.pop(0)
            tried.append(target)
            if any(scope == there and self.same(one, target) for one, there in self.ended):
                return True
            host, _, base = target.partition("/")
            if host not in self.federation.hosts:
                continue
            try:
                result = search(self.federation[host], base, scope, self.wanted)
            except NoEntry:
                continue
            except Referral as referred:
                before = []
                for one in referred.targets:
                    if not any(self.same(one, other) for other in tried + waiting + before):
                        before.append(one)
                waiting = before + waiting
                continue
            self.ended.append((target, scope))
            for entry in result.entries:
                if not any(host == there and entry.name == one.name for there, one in self.found):
                    self.found.append((host, entry))
            self.visits += result.references
            return True
        return False


class TestAtRandom(FederationTest):

    def test_the_rules_word_by_word(self):
        seen = {"dead": 0, "several": 0}
        for seed in range(60):
            chance = random.Random(seed)
            federation = Federation(**{host: self.directory(chance) for host in ("west", "east", "mid")})
            for _ in range(6):
                host, base, scope = chance.choice(federation.hosts), self.name(chance), chance.choice(SCOPES)
                plain = PlainFederation(federation, host, base, scope, "(&)")
                found, dead = federation.search(host, base, scope)
                self.assertEqual(found, tuple(plain.found))
                self.assertEqual(dead, tuple(plain.dead))
                seen["dead"] += len(dead) > 0
                seen["several"] += len({one for one, _ in found}) > 1
        self.assertGreater(min(seen.values()), 20)

    def name(self, chance):
        return chance.choice(("", "ou=a", "ou=B", "ou=c", "ou=d", "ou=a,ou=a", "ou=B,ou=a", "ou=A,ou=b", "ou=c,ou=B,ou=c"))

    def directory(self, chance):
        directory = place()
        for name in ("ou=A", "ou=b", "ou=C", "ou=A,ou=a", "ou=B,ou=a", "ou=a,ou=b", "ou=b,ou=c", "ou=C,ou=B,ou=c"):
            values = {f"{chance.choice(('west', 'east', 'mid', 'none'))}/{self.name(chance)}": True for _ in range(chance.randint(1, 3))}
            entry = unit(name) if chance.random() < 0.5 else referral(name, *values)
            outcome(directory.add_entry, entry)
        return directory


class TestTargetsFor(FederationTest):

    def directory(self):
        return tree(referral("ou=R,ou=A", "west", "east/ou=E", "mid/"), referral("ou=Top", "far/cn=X\\, y,ou=F"))

    def test_at_and_below(self):
        for name, targets in (("ou=R,ou=A", ("west/", "east/ou=E", "mid/")), ("ou=top", ("far/cn=X\\, y,ou=F",)),
                              ("cn=Q+ou=W,ou=r,ou=a", ("west/cn=Q+ou=W", "east/cn=Q+ou=W,ou=E", "mid/cn=Q+ou=W")),
                              ("cn=a,cn=B,ou=TOP", ("far/cn=a,cn=B,cn=X\\, y,ou=F",))):
            for one in (name, Name(name)):
                self.assertEqual(targets_for(self.directory(), one), targets)
                self.assertEqual(outcome(search, self.directory(), one), ("Referral", {"targets": targets}))
        self.assertEqual(targets_for(directory=self.directory(), name="ou=Top"), ("far/cn=X\\, y,ou=F",))

    def test_above_and_beside(self):
        for name in ("", "ou=A", "ou=a", "cn=Ann,ou=A", "ou=B,ou=A", "ou=Q", "ou=x,ou=q", "ou=R", "ou=Topp", "ou=Top,ou=A",
                     "ou=R,ou=B,ou=A"):
            self.assertEqual(targets_for(self.directory(), name), ())
            self.assertEqual(targets_for(self.directory(), Name(name)), ())

    def test_names_that_are_too_long(self):
        deep = ",".join(f"x={letter}" for letter in "abcdefghijk")
        directory = place(referral("ou=R", f"west/{deep}", f"east/x=l,{deep}", "mid"))
        self.assertEqual(targets_for(directory, "ou=R"), (f"west/{deep}", f"east/x=l,{deep}", "mid/"))
        self.assertEqual(targets_for(directory, "ou=x,ou=R"), (f"west/ou=x,{deep}", "mid/ou=x"))
        self.assertEqual(targets_for(directory, "ou=y,ou=x,ou=R"), ("mid/ou=y,ou=x",))
        only = place(referral("ou=R", f"east/x=l,{deep}"))
        self.assertEqual(targets_for(only, "ou=R"), (f"east/x=l,{deep}",))
        self.assertEqual(targets_for(only, "ou=x,ou=R"), ())

    def test_no_names(self):
        for name in (None, True, 5, "ou=", "x", ("ou=A",), ["ou=A"], {}, b"ou=A", person("cn=A")):
            self.assertEqual(outcome(targets_for, self.directory(), name), given("BadName", name))

    def test_nothing_is_changed(self):
        directory = self.directory()
        before = facts_of(directory)
        targets_for(directory, "ou=R,ou=A")
        self.assertEqual(facts_of(directory), before)
        self.assertEqual(values_of(directory["ou=Top"])["ref"], ("far/cn=X\\, y,ou=F",))


if __name__ == "__main__":
    unittest.main()
