"""The whole program: point [0] and the facts of [25], [28], [29] and [32], for histories that are drawn."""

import unittest

from dirservice.directories import Directory
from dirservice.errors import Behind, Conflict, Excess, Invalid
from dirservice.indexes import add_index, candidates, drop_index
from dirservice.replicas import Replica
from dirservice.searching import SCOPES, Paging, search
from dirservice.texts import entry_text, read, read_entry, read_script, script_text, write
from tests.drawn import Drawn, do_at
from tests.plain_replay import PlainReplay
from tests.replicas import HOSTS, all_changes, exchange, facts_of
from tests.samples import outcome
from tests.test_indexes import all_indexes
from tests.trees import TreeTest, referral, tree, tree_schema, unit

KEYS = ("cn", "-cn", "luck", "-luck", "kind", "-kind", "mail", "age", "-age", "code")


class TestIndexes(TreeTest):

    def test_searches_find_the_same_with_indexes_and_without(self):
        fewer = 0
        for seed in range(4):
            drawn = Drawn(seed)
            plain, indexed, some = (tree(referral("ou=R", "west/ou=x")) for _ in range(3))
            all_indexes(indexed)
            for step in range(25):
                deeds = tuple(drawn.deed(plain) for _ in range(drawn.chance.choice((1, 1, 2)))) if drawn.chance.random() < 0.8 else None
                told = [self.step(directory, deeds) for directory in (plain, indexed, some)]
                self.assertEqual(told, told[:1] * 3)
                self.other_index(drawn, some)
                for _ in range(6):
                    fewer += self.check(drawn, plain, indexed, some)
        self.assertGreater(fewer, 40)

    def step(self, directory, deeds):
        """Does a unit, or undoes one."""
        try:
            return directory.apply(deeds, manage=True) if deeds is not None else directory.undo()
        except (Invalid, Conflict, Excess) as error:
            return type(error).__name__, vars(error)

    def other_index(self, drawn, directory):
        word, index = drawn.chance.choice(("cn", "kind", "luck", "boss")), drawn.chance.choice(("present", "equal", "order", "pieces"))
        outcome(drop_index if (word, index) in directory.indexes else add_index, directory, word, index)

    def check(self, drawn, plain, *others):
        """One search is the same in all directories; how many look at fewer entries."""
        base, scope, wanted = drawn.name(plain), drawn.chance.choice(SCOPES), drawn.filter(plain, 4)
        options = {"words": drawn.chance.choice((None, ("cn", "team"))), "manage": drawn.chance.random() < 0.5,
                   "order": tuple(drawn.chance.choice(KEYS) for _ in range(drawn.chance.randint(0, 3)))}
        results = [outcome(search, directory, base, scope, wanted, **options) for directory in (plain, *others)]
        if isinstance(results[0], tuple):
            self.assertEqual(results, results[:1] * len(results))
            return 0
        for result, directory in zip(results, (plain, *others)):
            self.assertEqual((result.entries, result.references), (results[0].entries, results[0].references))
            self.check_definition(result, directory, base, scope, wanted, options)
        return sum(result.looked < results[0].looked for result in results)

    def check_definition(self, result, directory, base, scope, wanted, options):
        """What is found, and what is looked at, by the words of the points."""
        entries = [directory[entry.name] for entry in directory.walk(base)]
        away = {"base": (0,), "one": (1,), "below": range(1, 99), "subtree": range(99)}[scope]
        depth = len([leaf for leaf in base.split(",") if leaf])
        inside = [entry for entry in entries if entry.name.depth - depth in away]
        true = [entry.name.text for entry in inside if wanted.result(directory.schema, entry) is True
                and (options["manage"] or "referral" not in entry["kind"])]
        found = [entry.name.text for entry in result.entries]
        self.assertEqual(sorted(found), sorted(true))
        if not options["order"]:
            self.assertEqual(found, true)
        known = candidates(directory, wanted)
        self.assertEqual(result.looked, len([entry for entry in inside if known is None or entry.name.text in known]))

    def test_pages_are_of_one_moment(self):
        drawn = Drawn(77)
        directory = all_indexes(tree())
        for _ in range(20):
            wanted = drawn.filter(directory, 3)
            expected = search(directory, "", "subtree", wanted, manage=True).entries
            paging = Paging(directory, 2, "", "subtree", wanted, manage=True)
            entries = ()
            while not paging.is_over:
                entries += paging.page()
                self.step(directory, (drawn.possible_deed(directory) or ("delete", "ou=nowhere"),))
            self.assertEqual(entries, expected)


class TestReplicas(TreeTest):

    def history(self, seed, steps=45):
        """Three replicas that were changed and exchanged some changes."""
        drawn = Drawn(seed)
        replicas = [Replica(word, tree_schema()) for word in HOSTS]
        name = "ou=A"
        for _ in range(drawn.chance.choice((1, 2, 9))):
            replicas[0].add_entry(unit(name))
            name = f"ou={drawn.chance.choice('ABC')},{name}"
        exchange(*replicas)
        for _ in range(steps):
            one = drawn.chance.choice(replicas)
            if drawn.chance.random() < 0.1:
                one.pull(drawn.chance.choice(replicas))
            else:
                self.do_one(drawn, one)
        return drawn, replicas

    def do_one(self, drawn, replica):
        """A new change has the effect of its deed."""
        directory = replica.as_directory()
        deed = drawn.possible_deed(directory)
        if deed is not None:
            conflicts, vector = replica.conflicts, replica.vector
            directory.apply((deed,), manage=True)
            stamp = do_at(replica, deed)
            self.assertEqual(replica.as_directory(), directory)
            self.assertEqual(replica.conflicts, conflicts)
            self.assertEqual(replica.vector, {**vector, replica.word: vector.get(replica.word, 0) + 1})
            self.assertEqual(stamp, all_changes(replica)[-1].stamp)

    def test_replicas_with_the_same_changes_agree(self):
        reasons = {}
        for seed in range(25):
            drawn, replicas = self.history(seed)
            drawn.chance.shuffle(replicas)
            exchange(*replicas)
            changes = replicas[0].changes()
            plain = PlainReplay(tree_schema(), changes)
            for replica in replicas + [self.in_pieces(drawn, changes) for _ in range(2)]:
                self.assertEqual(replica.changes(), changes)
                self.assertEqual(replica.conflicts, plain.conflicts)
                self.assertEqual(replica.as_directory(), plain.directory)
                for mark in plain.entries:
                    self.assertEqual(replica.name_of(mark), plain.name(mark).text)
                    self.assertEqual(replica.mark_of(plain.name(mark)), mark)
            reasons |= {reason: True for _, reason in plain.conflicts}
        self.assertLessEqual({"entry", "parent", "children", "dup", "name", "rule"}, set(reasons))

    def in_pieces(self, drawn, changes):
        """A replica that takes changes in an order of its own."""
        replica = Replica("other", tree_schema())
        left = {word: [change for change in changes if change.stamp[1] == word] for word in HOSTS}
        while any(left.values()):
            word = drawn.chance.choice([word for word in left if left[word]])
            count = drawn.chance.randint(1, 5)
            piece = left[word][:count]
            left[word] = left[word][count:]
            drawn.chance.shuffle(piece)
            self.assertEqual(replica.take(tuple(piece + piece[:1])), len(piece))
        return replica

    def test_trimming_changes_nothing(self):
        forgotten = 0
        for seed in range(12):
            drawn, trimmed = self.history(seed, 12)
            whole = [self.taken(replica) for replica in trimmed]
            for _ in range(45):
                place, kind = drawn.chance.randrange(3), drawn.chance.random()
                if kind < 0.4:
                    other = drawn.chance.randrange(3)
                    self.assertEqual(trimmed[place].pull(trimmed[other]), whole[place].pull(whole[other]))
                elif kind < 0.6:
                    forgotten += self.trim(trimmed, place)
                else:
                    deed = drawn.possible_deed(trimmed[place].as_directory())
                    if deed is not None:
                        self.assertEqual(do_at(trimmed[place], deed), do_at(whole[place], deed))
                for one, other in zip(trimmed, whole):
                    self.assertEqual(one.as_directory(), other.as_directory())
                    self.assertEqual((one.conflicts, one.vector), (other.conflicts, other.vector))
        self.assertGreater(forgotten, 100)

    def taken(self, replica):
        """Another replica with the same word and the same changes."""
        other = Replica(replica.word, tree_schema())
        other.take(replica.changes())
        return other

    def trim(self, replicas, place):
        """How many changes a replica forgets by the vectors of all others."""
        try:
            return replicas[place].trim(tuple(replica.vector for replica in replicas if replica != replicas[place]))
        except Behind:
            return 0

    def test_refused_deeds_change_nothing(self):
        drawn, replicas = self.history(99, 20)
        refused = 0
        for _ in range(150):
            replica = drawn.chance.choice(replicas)
            before = facts_of(replica)
            deed = drawn.deed(replica.as_directory())
            told = outcome(replica.as_directory().apply, (deed,), manage=True)
            if len(told) == 2 and isinstance(told[1], dict):
                refused += 1
                self.assertEqual(outcome(do_at, replica, deed), told)
                self.assertEqual(facts_of(replica), before)
        self.assertGreater(refused, 80)


class TestTexts(TreeTest):

    def test_what_is_written_is_read(self):
        for seed in range(15):
            drawn = Drawn(seed)
            directory = tree(referral("ou=R", "west"))
            deeds = []
            for _ in range(20):
                deeds.append(drawn.deed(directory))
                deed = drawn.possible_deed(directory)
                if deed is not None:
                    directory.apply((deed,), manage=True)
            self.assertEqual(read(tree_schema(), write(directory)), directory)
            self.assertEqual(write(read(tree_schema(), write(directory))), write(directory))
            self.assertEqual(read_script(script_text(tuple(deeds))), tuple(deeds))
            self.assertEqual(script_text(read_script(script_text(tuple(deeds)))), script_text(tuple(deeds)))
            for entry in search(directory, "", manage=True).entries:
                self.assertEqual(read_entry(entry_text(entry)), entry)
                self.assertEqual(entry_text(read_entry(entry_text(entry))), entry_text(entry))

    def test_a_script_leads_to_the_same_entries(self):
        drawn = Drawn(5)
        one, other = tree(), tree()
        for _ in range(40):
            deed = drawn.possible_deed(one)
            if deed is not None:
                self.assertEqual(one.apply((deed,), manage=True), other.apply(read_script(script_text((deed,))), manage=True))
        self.assertEqual(one, other)

    def test_a_directory_and_a_replica(self):
        drawn = Drawn(8)
        directory, replica = Directory(tree_schema()), Replica("west", tree_schema())
        for _ in range(60):
            deed = drawn.possible_deed(directory)
            if deed is not None:
                directory.apply((deed,), manage=True)
                do_at(replica, deed)
        self.assertEqual(replica.as_directory(), directory)
        self.assertEqual(write(replica.as_directory()), write(directory))
        self.assertGreater(len(directory), 5)


if __name__ == "__main__":
    unittest.main()
