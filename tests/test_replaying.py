"""Point [28]: what comes of changes that were done separately, and the reasons of conflicts."""

import itertools
import unittest

from dirservice.replicas import Replica
from tests.replicas import ReplicaTest, names_of, replicas
from tests.trees import person, referral, tree_schema, unit, values_of

ANN, BOB = "cn=Ann,ou=A", "cn=Bob,ou=A"
BASE = (unit("ou=A"), unit("ou=B"), person(ANN), person(BOB))
TURN = (("replace", "kind", ("referral",)), ("add", "ref", ("far",)))
NOTHING = ("modify", "ou=A", ())


def do(replica, deed):
    """Does a deed that is given as (word, arguments..) or (word, arguments.., options)."""
    word, *arguments = deed
    options = arguments.pop() if isinstance(arguments[-1], dict) else {}
    return getattr(replica, word)(*arguments, **options)


def change(name, *changes):
    return ("modify", name, changes)


def line(letter, depth):
    """The name of the entry at a depth of a chain."""
    return ",".join([f"ou={letter}"] * depth)


def chain(letter, count):
    """Entries each below the one before."""
    return tuple(unit(line(letter, depth + 1)) for depth in range(count))


class ReplayTest(ReplicaTest):

    def meet(self, entries, east_deeds, west_deeds):
        """A replica after two have the same entries, and then do deeds separately.

        Of changes with the same time, those of east are replayed first.
        """
        west, east, mid = replicas("west", "east", "mid")
        for entry in entries:
            west.add_entry(entry)
        east.pull(west)
        self.stamps = [do(east, deed) for deed in east_deeds], [do(west, deed) for deed in west_deeds]
        self.assertEqual((east.conflicts, west.conflicts), ((), ()))
        self.agree(west, east, mid)
        self.check_pieces(west)
        return west

    def check_pieces(self, replica):
        """Others that take the changes in other orders and in pieces agree."""
        changes = replica.changes()
        by_host = [[one for one in changes if one.stamp[1] == word] for word in replica.vector]
        for order in itertools.permutations(by_host):
            for size in (1, 3):
                other = Replica("other", tree_schema())
                for row in order:
                    for start in range(0, len(row), size):
                        other.take(tuple(row[start:start + size][::-1]))
                self.assertEqual((other.changes(), other.conflicts), (changes, replica.conflicts))
                self.assertEqual(other.as_directory(), replica.as_directory())

    def conflict(self, entries, east_deeds, west_deeds, reason):
        """A replica after the last deed of west has become the only conflict."""
        replica = self.meet(entries, east_deeds, west_deeds)
        self.assertEqual(replica.conflicts, ((self.stamps[1][-1], reason),))
        return replica

    def skipped(self, entries, east_deeds, deed, reason):
        """A replica after a deed of west was skipped, so that it did not change any entry."""
        without = self.meet(entries, east_deeds, [NOTHING]).as_directory()
        replica = self.conflict(entries, east_deeds, [deed], reason)
        self.assertEqual(replica.as_directory(), without)
        return replica

    def goes_well(self, entries, east_deeds, *west_deeds):
        replica = self.meet(entries, east_deeds, west_deeds)
        self.assertEqual(replica.conflicts, ())
        return replica


class TestNoConflict(ReplayTest):

    def test_deeds_that_do_not_meet(self):
        replica = self.goes_well(BASE, [change(ANN, ("add", "mail", ("x",))), ("delete", "ou=B")],
                                 change(ANN, ("add", "age", ("5",))), ("rename", "ou=A", "ou=New"), ("add_entry", unit("ou=C")))
        self.assertEqual(names_of(replica), ("ou=C", "ou=New", "cn=Ann,ou=New", "cn=Bob,ou=New"))
        self.holds(replica.as_directory()["cn=Ann,ou=New"], mail=("x",), age=("5",))

    def test_the_order_of_stamps_decides(self):
        # Of two changes with the same time, that of the later word is replayed last.
        east, west = change(ANN, ("replace", "mail", ("east",))), change(ANN, ("replace", "mail", ("west",)))
        self.holds(self.goes_well(BASE, [east], west).as_directory()[ANN], mail=("west",))
        # A greater time comes later.
        self.holds(self.goes_well(BASE, [NOTHING, east], west).as_directory()[ANN], mail=("east",))

    def test_times_are_compared_as_integers(self):
        east, west = change(ANN, ("replace", "mail", ("east",))), change(ANN, ("replace", "mail", ("west",)))
        replica = self.goes_well(BASE, [NOTHING] * 5 + [east], *[NOTHING] * 4, west)
        self.assertEqual((self.stamps[0][-1], self.stamps[1][-1]), ((10, "east"), (9, "west")))
        self.holds(replica.as_directory()[ANN], mail=("east",))

    def test_tracked_values_follow(self):
        replica = self.goes_well(BASE, [("rename", ANN, "cn=Eva", {"under": "ou=B"})], change(BOB, ("add", "boss", (ANN,))))
        self.holds(replica.as_directory()[BOB], boss=("cn=Eva,ou=B",))
        self.holds(replica.as_directory()["cn=Eva,ou=B"], team=(BOB,))

    def test_a_name_is_free_when_its_entry_has_another_one(self):
        replica = self.goes_well(BASE, [("rename", ANN, "cn=Eva")], ("delete", BOB))
        replica.rename("cn=Eva,ou=A", "cn=Bob")
        replica.add_entry(person(ANN))
        self.assertEqual((names_of(replica), replica.conflicts), (("ou=A", ANN, BOB, "ou=B"), ()))

    def test_a_name_that_differs_in_letters_only(self):
        replica = self.goes_well(BASE, [("rename", ANN, "cn=ANN")], ("rename", ANN, "cn=aNN"))
        self.assertEqual(names_of(replica), ("ou=A", "cn=aNN,ou=A", BOB, "ou=B"))

    def test_an_entry_that_stays_below_the_one_it_is_below(self):
        moved = [("rename", ANN, "cn=Ann", {"under": "ou=B"})]
        replica = self.goes_well(BASE, moved, ("rename", ANN, "cn=Eva"))
        self.assertEqual(names_of(replica), ("ou=A", BOB, "ou=B", "cn=Eva,ou=B"))
        replica = self.goes_well(BASE, moved, ("rename", ANN, "cn=Eva", {"under": "ou=a"}))
        self.assertEqual(names_of(replica), ("ou=A", BOB, "cn=Eva,ou=A", "ou=B"))


class TestReasons(ReplayTest):

    def test_entry(self):
        gone = [("delete", ANN)]
        for deed in (("delete", ANN), change(ANN, ("add", "mail", ("x",))), change(ANN), ("rename", ANN, "cn=Eva")):
            self.skipped(BASE, gone, deed, "entry")
        # An entry with the same name is another one.
        replica = self.conflict(BASE, gone + [("add_entry", person(ANN))],
                                [NOTHING, NOTHING, change(ANN, ("add", "mail", ("x",)))], "entry")
        self.holds(replica.as_directory()[ANN], mail=())

    def test_parent_that_is_not_there(self):
        self.skipped(BASE, [("delete", "ou=B")], ("add_entry", person("cn=x,ou=B")), "parent")
        self.skipped(BASE, [("delete", "ou=B")], ("rename", ANN, "cn=Eva", {"under": "ou=b"}), "parent")

    def test_parent_that_belongs_to_referral(self):
        self.skipped(BASE, [change("ou=B", *TURN)], ("add_entry", person("cn=x,ou=B")), "parent")
        self.skipped(BASE, [change("ou=B", *TURN)], ("rename", ANN, "cn=Eva", {"under": "ou=b"}), "parent")

    def test_what_follows_a_change_that_was_skipped(self):
        replica = self.meet(BASE, [("delete", "ou=B")],
                            [("add_entry", unit("ou=x,ou=B")), ("add_entry", unit("ou=y,ou=x,ou=B")), change("ou=x,ou=b"),
                             change(ANN, ("add", "boss", ("ou=y,ou=x,ou=B",)))])
        self.assertEqual(replica.conflicts, tuple(zip(self.stamps[1], ("parent", "parent", "entry"))))
        self.holds(replica.as_directory()[ANN], boss=())

    def test_inside(self):
        entries = (unit("ou=A"), unit("ou=B"), unit("ou=C,ou=A"), unit("ou=D,ou=B"))
        replica = self.skipped(entries, [("rename", "ou=A", "ou=A", {"under": "ou=D,ou=B"})],
                               ("rename", "ou=B", "ou=B", {"under": "ou=C,ou=A"}), "inside")
        self.assertEqual(names_of(replica), ("ou=B", "ou=D,ou=B", "ou=A,ou=D,ou=B", "ou=C,ou=A,ou=D,ou=B"))
        self.skipped(entries, [("rename", "ou=A", "ou=A", {"under": "ou=B"})], ("rename", "ou=B", "ou=B", {"under": "ou=A"}), "inside")

    def test_children(self):
        self.skipped(BASE, [("add_entry", person("cn=x,ou=B"))], ("delete", "ou=B"), "children")
        self.skipped(BASE, [("rename", ANN, "cn=Ann", {"under": "ou=B"})], ("delete", "ou=B"), "children")
        # What is gone once more does not count.
        replica = self.goes_well(BASE, [("add_entry", person("cn=x,ou=B")), ("delete", "cn=x,ou=B")], NOTHING, NOTHING,
                                 ("delete", "ou=B"))
        self.assertEqual(names_of(replica), ("ou=A", ANN, BOB))

    def test_deep_when_an_entry_is_added(self):
        entries = chain("A", 11) + (unit("ou=B"),)
        deed = ("add_entry", unit("ou=x," + line("a", 11)))
        self.assertEqual(len(self.goes_well(entries, [NOTHING], deed).as_directory()), 13)
        replica = self.conflict(entries, [("rename", "ou=A", "ou=A", {"under": "ou=B"})], [deed], "deep")
        self.assertEqual(len(replica.as_directory()), 12)

    def test_deep_when_an_entry_is_renamed(self):
        # Six and five relative names are eleven; each deed of east makes one more.
        entries = chain("A", 6) + chain("b", 5) + (unit("ou=C"),)
        deed = ("rename", "ou=b", "ou=b", {"under": line("a", 6)})
        one, two = ("add_entry", unit("ou=x," + line("b", 5))), ("add_entry", unit("ou=y,ou=x," + line("b", 5)))
        down = ("rename", "ou=A", "ou=A", {"under": "ou=C"})
        for east_deeds in ([one], [down]):
            self.goes_well(entries, east_deeds, deed)
        for east_deeds in ([one, two], [one, down]):
            replica = self.conflict(entries, east_deeds, [change("ou=C"), deed], "deep")
            self.assertEqual(replica.name_of((7, "west")), "ou=b")

    def test_two_reasons_at_once(self):
        gone = [("delete", ANN), ("delete", "ou=B")]
        deed = ("rename", ANN, "cn=Ann", {"under": "ou=B"})
        self.skipped(BASE, gone, deed, "entry")
        # The new entry above is one of referral, and below the entry itself.
        entries = (unit("ou=A"), unit("ou=D"))
        east_deeds = [("rename", "ou=D", "ou=D", {"under": "ou=A"}), change("ou=D,ou=A", *TURN)]
        replica = self.meet(entries, east_deeds, [change("ou=D"), change("ou=D"), ("rename", "ou=A", "ou=A", {"under": "ou=D"})])
        self.assertEqual(replica.conflicts, ((self.stamps[1][-1], "parent"),))
        # The new entry above is below the entry itself, and a name would be too long.
        entries = chain("A", 6) + (unit("ou=D"),)
        replica = self.meet(entries, [("rename", "ou=D", "ou=D", {"under": line("A", 6)})],
                            [("rename", "ou=A", "ou=A", {"under": "ou=D"})])
        self.assertEqual(replica.conflicts, ((self.stamps[1][-1], "inside"),))
        # Entries are below the one to delete, and another one must have its name.
        entries = (unit("ou=A"), unit("ou=B"), person(ANN), person(BOB, boss=("ou=B",)))
        east_deeds = [("add_entry", unit("ou=x,ou=B")), change(BOB, ("replace", "kind", ("deputy",)))]
        replica = self.meet(entries, east_deeds, [change("ou=A"), change("ou=A"), ("delete", "ou=B")])
        self.assertEqual(replica.conflicts, ((self.stamps[1][-1], "children"),))

    def test_deep_comes_before_a_name_that_is_taken(self):
        entries = chain("A", 11) + (unit("ou=S"),)
        east_deeds = [("add_entry", unit("ou=x,ou=S")), ("add_entry", unit("ou=s," + line("A", 11)))]
        deed = ("rename", "ou=S", "ou=S", {"under": line("A", 11)})
        replica = self.meet(entries, east_deeds, [change("ou=A"), change("ou=A"), deed])
        self.assertEqual(replica.conflicts, ((self.stamps[1][-1], "deep"),))
        replica = self.meet(entries, east_deeds[1:], [change("ou=A"), change("ou=A"), deed])
        self.assertEqual(replica.conflicts, ((self.stamps[1][-1], "dup"),))


class TestRule(ReplayTest):

    def test_classes_that_do_not_fit(self):
        entries = BASE[:3] + (person(BOB, boss=(ANN,)),)
        self.skipped(entries, [change(BOB, ("add", "kind", ("chief",)))], change(BOB, ("add", "kind", ("deputy",))), "rule")

    def test_an_attribute_that_may_not_be_there(self):
        entries = BASE + (referral("cn=R,ou=A", "far", cn=("R",)).with_values(ou=()),)
        self.skipped(entries, [change("cn=R,ou=A", ("add", "ref", ("near",)))],
                     change("cn=R,ou=A", ("replace", "kind", ("person",)), ("delete", "ref", ("far",))), "rule")

    def test_an_attribute_that_must_be_there(self):
        entries = BASE[:3] + (person(BOB, kind=("person", "tag"), luck=("1", "2")),)
        self.skipped(entries, [change(BOB, ("delete", "luck", ("1",)))], change(BOB, ("delete", "luck", ("2",))), "rule")

    def test_too_many_values(self):
        self.skipped(BASE, [change(ANN, ("add", "age", ("1",)))], change(ANN, ("add", "age", ("2",))), "rule")
        entries = BASE[:3] + (person(BOB, mail=tuple(f"m{number}" for number in range(19))),)
        self.skipped(entries, [change(BOB, ("add", "mail", ("x",)))], change(BOB, ("add", "mail", ("y",))), "rule")

    def test_the_value_of_the_relative_name(self):
        entries = BASE[:3] + (person(BOB, cn=("Bob", "x", "y")),)
        self.skipped(entries, [("rename", BOB, "cn=x")], change(BOB, ("delete", "cn", ("X",))), "rule")
        self.skipped(entries, [change(BOB, ("add", "age", ("6",)))], ("rename", BOB, "age=5+cn=Bob"), "rule")

    def test_the_place_of_an_entry(self):
        entries = (unit("ou=A"), person(ANN), person(BOB, kind=("chief",)))
        self.skipped(entries, [change(BOB, ("replace", "kind", ("person",)))], ("rename", BOB, "cn=Bob", {"under": ANN}), "rule")
        entries = (unit("ou=A"), unit("ou=U,ou=A"))
        turned = change("ou=U,ou=A", ("replace", "kind", ("person",)), ("add", "cn", ("u",)))
        self.skipped(entries, [turned], ("add_entry", person("cn=x,ou=U,ou=A")), "rule")
        # The same for an entry straight below.
        self.skipped(entries, [("add_entry", person("cn=x,ou=U,ou=A"))], turned, "rule")
        self.goes_well(entries, [("add_entry", person("cn=x,ou=U,ou=A", kind=("chief",)))], turned)

    def test_a_referral_with_entries_below(self):
        self.skipped(BASE, [("add_entry", unit("ou=x,ou=B"))], change("ou=B", *TURN), "rule")

    def test_a_value_that_would_be_too_large(self):
        entries = BASE[:3] + (person(BOB, luck=("9" * 29 + "8", "5")),)
        one = change(BOB, ("increment", "luck", 1))
        self.skipped(entries, [one], one, "rule")
        self.goes_well(entries, [one], change(BOB, ("increment", "luck", -1)))
        # The changes of a deed hold whole or not at all.
        self.skipped(entries, [one], change(BOB, ("add", "mail", ("x",)), ("increment", "luck", 1), ("add", "age", ("1",))), "rule")

    def test_in_use(self):
        entries = BASE[:3] + (person(BOB, boss=(ANN,)),)
        replica = self.skipped(entries, [change(BOB, ("replace", "kind", ("deputy",)))], ("delete", ANN), "rule")
        self.holds(replica.as_directory()[BOB], boss=(ANN,))
        replica = self.goes_well(entries, [change(BOB, ("replace", "kind", ("deputy",)), ("add", "boss", ("ou=B",)))], ("delete", ANN))
        self.holds(replica.as_directory()[BOB], boss=("ou=B",))

    def test_an_entry_that_must_name_itself_can_be_deleted(self):
        own = person("cn=x,ou=A", kind=("deputy",), boss=("cn=x,ou=A",))
        replica = self.goes_well(BASE + (own,), [NOTHING], ("delete", "cn=x,ou=A"))
        self.assertEqual(names_of(replica), ("ou=A", ANN, BOB, "ou=B"))

    def test_a_mark_that_must_be_there(self):
        deputy = person("cn=x,ou=A", kind=("deputy",), boss=(ANN,))
        self.skipped(BASE, [("delete", ANN)], ("add_entry", deputy), "rule")
        self.goes_well(BASE, [("delete", ANN)], ("add_entry", deputy.with_values(boss=(ANN, "cn=x,ou=A"))))


class TestNamesThatMeet(ReplayTest):

    def met(self, first, second):
        """The name and the value of `dup` that the second one of two added entries gets."""
        replica = self.conflict(BASE, [("add_entry", first)], [("add_entry", second)], "dup")
        self.assertEqual(replica.name_of(self.stamps[0][0]), first.name.text)
        name = replica.name_of(self.stamps[1][0])
        return name, replica.as_directory()[name]["dup"]

    def test_two_added_entries(self):
        self.assertEqual(self.met(person("cn=x,ou=A"), person("cn=X,ou=a")), ("cn=X+dup=5-west,ou=A", ("5-west",)))
        self.assertEqual(self.met(unit("ou=x"), unit("ou=X")), ("ou=X+dup=5-west", ("5-west",)))
        # An entry with the same relative name elsewhere is none with the same name.
        self.goes_well(BASE, [("add_entry", unit("ou=x,ou=A"))], ("add_entry", unit("ou=x,ou=B")), ("add_entry", unit("ou=x")))

    def test_pairs_in_other_order(self):
        one = person("cn=x,ou=A", luck=("5",)).renamed("cn=x+luck=5,ou=A")
        self.assertEqual(self.met(one, one.renamed("luck=5+cn=X,ou=a")), ("luck=5+cn=X+dup=5-west,ou=A", ("5-west",)))

    def test_a_value_of_dup_is_replaced(self):
        self.assertEqual(self.met(unit("ou=x"), unit("ou=x", dup=("own",))), ("ou=x+dup=5-west", ("5-west",)))

    def test_three_pairs_and_four(self):
        one = person("cn=x,ou=A", luck=("5",), mail=("m",), age=("7",))
        three, four = one.renamed("cn=x+luck=5+mail=m,ou=A"), one.renamed("cn=x+luck=5+mail=m+age=7,ou=A")
        self.assertEqual(self.met(three, three)[0], "cn=x+luck=5+mail=m+dup=5-west,ou=A")
        self.skipped(BASE, [("add_entry", four)], ("add_entry", four), "name")
        self.skipped(BASE, [("add_entry", four)], ("rename", ANN, "age=7+luck=5+mail=M+cn=x"), "name")

    def test_a_pair_of_dup(self):
        one = unit("ou=x", dup=("own",)).renamed("dup=own+ou=x")
        self.skipped(BASE, [("add_entry", one)], ("add_entry", one), "name")
        self.skipped(BASE, [("add_entry", one)], ("rename", "ou=B", "ou=X+dup=own"), "name")

    def test_the_other_name_is_taken_too(self):
        taken = unit("ou=x", dup=("5-WEST",)).renamed("dup=5-WEST+ou=X")
        entries = BASE[:3] + (taken,)
        self.skipped(entries, [("add_entry", unit("ou=x"))], ("add_entry", unit("ou=x")), "name")
        self.skipped(entries, [("add_entry", unit("ou=x"))], ("rename", "ou=B", "ou=x"), "name")
        entries = BASE[:3] + (taken.renamed("dup=5-WEST+ou=X,ou=A"),)
        self.conflict(entries, [("add_entry", unit("ou=x"))], [("add_entry", unit("ou=x"))], "dup")

    def test_a_renamed_entry(self):
        replica = self.conflict(BASE, [("add_entry", person("cn=x,ou=A"))], [("rename", ANN, "cn=X")], "dup")
        entry = replica.as_directory()["cn=X+dup=5-west,ou=A"]
        self.assertEqual(values_of(entry), {"kind": ("person",), "cn": ("X",), "dup": ("5-west",)})
        # Two are renamed, one of them from elsewhere and with old values.
        replica = self.conflict(BASE, [("rename", ANN, "cn=X", {"under": "ou=B"})],
                                [("rename", BOB, "cn=x", {"under": "ou=B", "keep": True})], "dup")
        self.assertEqual(names_of(replica), ("ou=A", "ou=B", "cn=X,ou=B", "cn=x+dup=5-west,ou=B"))
        self.holds(replica.as_directory()["cn=x+dup=5-west,ou=B"], cn=("Bob", "x"), dup=("5-west",))

    def test_a_renamed_entry_with_entries_below(self):
        entries = (unit("ou=A"), unit("ou=B"), person(ANN), person(BOB, boss=(ANN,)))
        replica = self.conflict(entries, [("add_entry", unit("ou=x"))], [("rename", "ou=A", "ou=x")], "dup")
        directory = replica.as_directory()
        self.holds(directory["cn=bob,dup=5-west+ou=x"], boss=("cn=Ann,ou=x+dup=5-west",))
        self.assertEqual(directory.children("ou=x+dup=5-west"), ("cn=Ann,ou=x+dup=5-west", "cn=Bob,ou=x+dup=5-west"))

    def test_an_entry_that_met_another_one_before(self):
        west, east = replicas()
        for replica in (west, east):
            replica.add_entry(unit("ou=x"))
        self.agree(west, east)
        self.assertEqual(west.conflicts, (((1, "west"), "dup"),))
        # The pair of `dup` and its value go with the old name.
        west.rename("ou=x+dup=1-west", "ou=y")
        self.assertEqual(values_of(west.as_directory()["ou=y"]), {"kind": ("unit",), "ou": ("y",)})
        east.add_entry(unit("ou=y"))
        self.agree(west, east)
        self.assertEqual(west.conflicts, (((1, "west"), "dup"), ((2, "west"), "dup")))
        self.assertEqual(values_of(west.as_directory()["ou=y+dup=2-west"]), {"kind": ("unit",), "ou": ("y",), "dup": ("2-west",)})
        # Kept values of `dup` give way to the new one.
        west.rename("ou=y+dup=2-west", "ou=z", keep=True)
        east.add_entry(unit("ou=z"))
        self.agree(west, east)
        self.assertEqual(values_of(west.as_directory()["ou=z+dup=3-west"]), {"kind": ("unit",), "ou": ("y", "z"), "dup": ("3-west",)})

    def test_a_change_that_has_a_later_reason(self):
        entries = BASE[:3] + (person(BOB, boss=(ANN,)),)
        east_deeds = [("add_entry", person("cn=x,ou=A")), ("delete", ANN), change(BOB, ("add", "age", ("6",)))]
        deputy = person("cn=x,ou=A", kind=("deputy",), boss=(ANN,))
        self.conflict(entries, east_deeds, [NOTHING, ("add_entry", deputy)], "rule")
        taken = person("cn=x,ou=A", age=("5",)).renamed("cn=x+age=5,ou=A")
        self.conflict(entries, [("add_entry", taken), change(BOB, ("add", "age", ("6",)))], [NOTHING, ("rename", BOB, "age=5+cn=x")],
                      "rule")

    def test_three_entries(self):
        west, east, mid = replicas("west", "east", "mid")
        for replica in (west, east, mid):
            replica.add_entry(unit("ou=x"))
            replica.add_entry(unit("ou=y,ou=x"))
        self.agree(west, east, mid)
        self.assertEqual(west.conflicts, (((1, "mid"), "dup"), ((1, "west"), "dup")))
        self.assertEqual(sorted(names_of(west)), ["ou=x", "ou=x+dup=1-mid", "ou=x+dup=1-west", "ou=y,ou=x", "ou=y,ou=x+dup=1-mid",
                                                  "ou=y,ou=x+dup=1-west"])


class TestValuesThatMeet(ReplayTest):

    ENTRIES = BASE[:3] + (person(BOB, mail=("one", "two", "three"), luck=("1", "2"), boss=(ANN, "ou=B"), peer=(ANN,)),)

    def bob(self, east_deed, *changes):
        """The entry after one deed of east and changes of west."""
        return self.goes_well(self.ENTRIES, [east_deed], change(BOB, *changes)).as_directory()[BOB]

    def test_values_to_add_that_are_there(self):
        added = change(BOB, ("add", "mail", ("Four", "five")))
        self.holds(self.bob(added, ("add", "mail", ("six", "FOUR"))), mail=("one", "two", "three", "Four", "five", "six"))
        self.holds(self.bob(added, ("add", "mail", ("four",)), ("delete", "mail", ("two",))), mail=("one", "three", "Four", "five"))
        self.holds(self.bob(change(BOB, ("add", "boss", (BOB,))), ("add", "boss", ("ou=A", BOB))), boss=(ANN, "ou=B", BOB, "ou=A"))
        replica = self.goes_well(BASE, [change("ou=B", ("add", "code", ("x",)))], change("ou=B", ("add", "code", ("X", "x"))))
        self.holds(replica.as_directory()["ou=B"], code=("x", "X"))

    def test_values_to_delete_that_are_not_there(self):
        gone = change(BOB, ("delete", "mail", ("Two",)))
        self.holds(self.bob(gone, ("delete", "mail", ("TWO", "one"))), mail=("three",))
        # A change of which no value is left does not delete all.
        self.holds(self.bob(gone, ("delete", "mail", ("two",))), mail=("one", "three"))
        self.holds(self.bob(gone, ("delete", "mail", ("two",)), ("add", "age", ("5",))), mail=("one", "three"), age=("5",))
        self.holds(self.bob(change(BOB, ("delete", "boss", (ANN,))), ("delete", "boss", (ANN,))), boss=("ou=B",))

    def test_all_values(self):
        everything = change(BOB, ("delete", "mail", ()))
        self.holds(self.bob(everything, ("delete", "mail", ())), mail=())
        self.holds(self.bob(everything, ("delete", "mail", ("one",)), ("add", "mail", ("x",))), mail=("x",))
        self.holds(self.bob(everything, ("replace", "mail", ("x",))), mail=("x",))
        self.holds(self.bob(change(BOB, ("add", "mail", ("x",))), ("delete", "mail", ())), mail=())
        self.holds(self.bob(change(BOB, ("add", "mail", ("x",))), ("replace", "mail", ())), mail=())
        self.holds(self.bob(change(BOB, ("add", "mail", ("x",))), ("add", "mail", ())), mail=("one", "two", "three", "x"))

    def test_increments(self):
        self.holds(self.bob(change(BOB, ("increment", "luck", 5)), ("increment", "luck", 10)), luck=("16", "17"))
        self.holds(self.bob(change(BOB, ("delete", "luck", ())), ("increment", "luck", 10)), luck=())
        self.holds(self.bob(change(BOB, ("add", "luck", ("7",))), ("increment", "luck", -1)), luck=("0", "1", "6"))
        self.holds(self.bob(change(BOB, ("increment", "luck", 1)), ("delete", "luck", ("2",))), luck=("3",))
        replica = self.goes_well(self.ENTRIES, [NOTHING], change(BOB, ("add", "age", ("5",)), ("increment", "age", 2)))
        self.holds(replica.as_directory()[BOB], age=("7",))

    def test_marks_of_entries_that_are_not_there(self):
        gone = ("delete", "ou=B")
        self.holds(self.bob(gone, ("add", "peer", ("ou=B",))), boss=(ANN,), peer=(ANN,))
        self.holds(self.bob(gone, ("replace", "peer", ("ou=B", BOB))), peer=(BOB,))
        self.holds(self.bob(gone, ("replace", "peer", ("ou=B",))), peer=())
        self.holds(self.bob(gone, ("delete", "boss", ("ou=B",))), boss=(ANN,))
        self.holds(self.bob(gone, ("delete", "boss", ("ou=B", ANN))), boss=())
        replica = self.goes_well(BASE, [gone], ("add_entry", person("cn=x,ou=A", boss=("ou=B", "cn=x,ou=A", ANN), peer=("ou=B",))))
        self.holds(replica.as_directory()["cn=x,ou=A"], boss=("cn=x,ou=A", ANN), peer=())

    def test_an_entry_that_is_deleted(self):
        replica = self.goes_well(self.ENTRIES, [change(ANN, ("add", "boss", (BOB, "ou=A"))), change("ou=A", ("add", "boss", (BOB,)))],
                                 NOTHING, NOTHING, ("delete", BOB))
        self.holds(replica.as_directory()[ANN], boss=("ou=A",), team=())
        self.holds(replica.as_directory()["ou=A"], boss=())

    def test_values_of_an_old_name(self):
        entries = BASE[:3] + (person(BOB, cn=("Bob", "x")),)
        # The name that the entry has then is the old one.
        replica = self.goes_well(entries, [("rename", BOB, "cn=Rob", {"keep": True})], ("rename", BOB, "cn=x"))
        self.holds(replica.as_directory()["cn=x,ou=A"], cn=("Bob", "x"))
        replica = self.goes_well(entries, [change(BOB, ("delete", "cn", ("x",)))], ("rename", BOB, "cn=x"))
        self.holds(replica.as_directory()["cn=x,ou=A"], cn=("x",))

    def test_attributes_that_are_not_in_the_schema(self):
        changes = (("add", "none", ("a", "A")), ("delete", "none", ("a",)), ("delete", "none", ("A",)), ("add", "team", (ANN,)),
                   ("delete", "team", (ANN,)))
        self.holds(self.bob(change(BOB, *changes), *changes), none=(), mail=("one", "two", "three"))


if __name__ == "__main__":
    unittest.main()
