"""Points 200 to 204: cleaning."""

import copy
import random
import unittest

from kilnyard.cleaning import clean, live_contents, live_records, strays, sweep
from kilnyard.keys import content_key
from kilnyard.recipes import Book
from kilnyard.records import Record
from kilnyard.stores import Store
from kilnyard.targets import rule_key
from tests.helpers import GOALS, RULES, Yard, change_world, harm, joins, kept, told, write_rules

RECIPES = ('rule a b : s\n put 1 read("s")\n put 2 "2"\nend\nrule *.o *.d : *.c\n put 1 stem\n put 2 stem\nend\n'
           'rule x.d :\n put 1 ""\nend\n')


class TestStrays(unittest.TestCase):
    def setUp(self):
        self.yard = Yard(RECIPES, {"s": "", "w": "", "y.c": ""}, {"l": "a", "z/l": "s"})

    def check(self, paths):
        """These are the strays; sweeping erases them alone, and finds nothing the second time."""
        tree, book = self.yard.tree, self.yard.book
        before = dict(tree.entries)
        self.assertEqual(strays(tree, book), paths.split())
        self.assertEqual(tree.entries, before)
        self.assertEqual(sweep(tree, book), paths.split())
        self.assertEqual(tree.entries, {path: before[path] for path in before if path not in paths.split()})
        self.assertEqual((sweep(tree, book), strays(tree, book)), ([], []))

    def test_no_strays(self):
        self.check("")

    def test_files_of_builds_that_no_job_makes(self):
        for path in ("q", "d/q", "c", "a.o/a", "rules2"):
            self.yard.tree.write(path, "", "build")
        self.check("a.o/a c d/q q rules2")

    def test_files_of_builds_that_a_job_makes(self):
        for path in ("a", "b", "y.o", "y.d", "n.o", "x.d"):
            self.yard.tree.write(path, "", "build")
        self.check("")

    def test_a_path_with_an_owner_that_does_not_make_it(self):
        # `x.d` is the output of a plain rule, so that no job makes `x.o`.
        self.yard.tree.write("x.o", "", "build")
        self.check("x.o")

    def test_a_recipe_file(self):
        self.yard.tree.write("rules", "", "build")
        book = Book()
        book.files.append("rules")
        self.assertEqual(strays(self.yard.tree, book), ["rules"])

    def test_links_and_files_of_persons_are_no_strays(self):
        self.yard.write(q="", a="", b="")
        self.yard.tree.link("c", "s")
        self.check("")

    def test_the_lists_are_new(self):
        self.yard.tree.write("q", "", "build")
        strays(self.yard.tree, self.yard.book).clear()
        self.check("q")


class TestStores(unittest.TestCase):
    def setUp(self):
        self.yard = Yard(RECIPES, {"s": "1", "y.c": ""})
        self.store = self.yard.store

    def check(self, records, contents):
        """These records and contents are alive; cleaning loses all others, and finds nothing the second time."""
        book = self.yard.book
        before = kept(self.store)
        self.assertEqual(live_records(self.store, book), records)
        self.assertEqual(live_contents(self.store, book), sorted([content_key(text) for text in contents]))
        self.assertEqual(kept(self.store), before)
        rows = [at for at, row in enumerate(before[1]) if row is not None]
        found = clean(self.store, book)
        self.assertEqual(found, (len(rows) - len(records), len(before[0]) - len(contents)))
        self.assertIsInstance(found, tuple)
        self.assertEqual(self.store.kept_texts(), {content_key(text): text for text in contents})
        left = [row if at in records else None for at, row in enumerate(before[1])]
        self.assertEqual(self.store.kept_records(), left)
        after = kept(self.store)
        self.assertEqual(clean(self.store, book), (0, 0))
        self.assertEqual(kept(self.store), after)
        self.assertEqual((live_records(self.store, book), len(live_contents(self.store, book))),
                         (records, len(contents)))

    def add(self, path, *results, needs=()):
        return self.store.add_record(self.yard.record(path, needs, results))

    def put(self, *texts):
        for text in texts:
            self.store.put_content(text)

    def test_an_empty_store(self):
        self.check([], [])

    def test_what_builds_have_put_there(self):
        self.yard.made("a", "y.o")
        self.check([0, 1], ["1", "2", "y"])

    def test_older_records_of_a_job_are_alive_too(self):
        self.yard.made("a")
        self.yard.write(s="3")
        self.yard.made("a")
        self.check([0, 1], ["1", "2", "3"])

    def test_records_that_are_lost_or_damaged(self):
        for text in ("1", "3", "4"):
            self.yard.write(s=text)
            self.yard.made("a")
        self.store.lose_record(0)
        self.store.damage_record(1, "x")
        self.check([2], ["2", "4"])

    def test_a_damaged_record_that_is_made_whole(self):
        self.add("a", "1", "2")
        line = self.store.kept_records()[0][1]
        self.store.damage_record(0, "x")
        self.store.damage_record(0, line)
        self.check([0], [])

    def test_records_of_another_rule(self):
        self.yard.made("a", "y.o")
        self.yard.write(rules=RECIPES.replace('put 2 "2"', 'put 2 "3"'))
        self.check([1], ["y"])

    def test_records_without_a_job(self):
        self.yard.made("a", "y.o")
        self.yard.write(rules="rule c :\nend")
        self.check([], [])

    def test_exactly_the_outputs_of_the_job(self):
        book = self.yard.book
        key = rule_key(book, self.yard.job("a"))
        for outputs in (("a",), ("b", "a"), ("a", "b", "c"), ("b",), ("a", "b")):
            self.store.add_record(Record(outputs, key, (), (1,) * len(outputs)))
        self.check([4], [])

    def test_outputs_with_an_owner_that_does_not_make_them(self):
        book = self.yard.book
        record = self.yard.record("y.o", (), ("y", "y"))
        record.outputs = ("x.o", "x.d")
        self.store.add_record(record)
        self.store.add_record(Record(("x.d",), rule_key(book, self.yard.job("x.d")), (), (1,)))
        self.check([1], [])

    def test_the_stem_makes_a_difference(self):
        record = self.yard.record("y.o", (), ("y", "y"))
        record.outputs = ("z.o", "z.d")
        self.store.add_record(record)
        self.check([], [])

    def test_the_second_result_keeps_a_content_alive(self):
        self.put("p", "q", "r")
        self.add("a", "p", "q")
        self.check([0], ["p", "q"])

    def test_contents_that_are_damaged_or_lost(self):
        self.put("p", "q", "r")
        self.add("a", "p", "q")
        self.store.damage_content(content_key("p"), "r")
        self.store.damage_content(content_key("r"), "p")
        self.check([0], ["q"])
        self.store.lose_content(content_key("q"))
        self.check([0], [])

    def test_contents_of_dead_records(self):
        self.put("p", "q", "r")
        self.add("a", "p", "q")
        self.add("y.o", "q", "r")
        self.store.damage_record(0, "x")
        self.check([1], ["q", "r"])

    def test_what_needs_say_makes_no_difference(self):
        self.put("p")
        self.add("a", "p", "p", needs=(("file", "gone", content_key("q")), ("has", "no", True)))
        self.put("q")
        self.check([0], ["p"])

    def test_the_indexes_stay(self):
        self.store.add_record(Record(("c",), 5, (), (1,)))
        self.add("a", "p", "q")
        self.check([1], [])
        self.assertEqual(self.add("a", "p", "q"), 2)

    def test_the_lists_are_new(self):
        self.yard.made("a")
        live_records(self.store, self.yard.book).clear()
        live_contents(self.store, self.yard.book).clear()
        self.check([0], ["1", "2"])


class TestBuildsBehindIt(unittest.TestCase):
    """Point 204: cleaning does not change what builds do."""

    def test_rounds(self):
        cleaned = 0
        for seed in range(40):
            rng = random.Random(seed)
            yard = Yard("", {"a.c": "a", "b.c": "b", "pick": "1", "which": "a.o"}, {"ln": "a.c"})
            for _ in range(6):
                rules = list(RULES)
                rng.shuffle(rules)
                write_rules(lambda path, text: yard.write(**{path: text}), rules[:rng.randrange(8, 12)])
                change_world(rng, lambda path, text: yard.write(**{path: text}), yard.tree.link,
                             lambda path: yard.tree.kind(path) == "none" or yard.tree.erase(path), yard.settings)
                harm(rng, yard.store)
                other = copy.deepcopy(yard)
                other.store = yard.store.twin()
                cleaned += len(sweep(other.tree, other.book)) + sum(clean(other.store, other.book))
                goals = [rng.choice(GOALS) for _ in range(4)]
                builds = [each.build(*goals, keep_going=True) for each in (yard, other)]
                while builds[0].outcome() == "going":
                    name = rng.choice(builds[0].ready())
                    for build in builds:
                        attempt = build.start(name)
                        if attempt is not None:
                            build.finish(attempt)
                    self.assertEqual([build.contents() for build in builds][0], builds[1].contents())
                one, two = told(builds[0]), told(builds[1])
                # Indexes stay, but refused candidates may be gone.
                self.assertEqual(one[:7], two[:7])
                self.assertEqual([entry[:3] for entry in one[7]], [entry[:3] for entry in two[7]])
        self.assertGreater(cleaned, 100)

    def test_a_store_with_a_journal(self):
        yard = Yard(joins("a : s"), {"s": "1"})
        yard.made("a")
        yard.write(rules=joins("b : s"))
        yard.made("b")
        self.assertEqual(clean(yard.store, yard.book), (1, 1))
        self.assertEqual(yard.build("b").outcome(), "done")


class TestJournals(unittest.TestCase):
    def test_cleaning_writes_nothing_to_a_journal(self):
        class Notebook:
            def add_content(self, text):
                raise AssertionError(text)

            def add_record(self, record):
                raise AssertionError(record)
        store = Store(Notebook())
        store.fill_from({content_key("a"): "a"}, [(content_key("a 5 - 1"), "a 5 - 1")])
        self.assertEqual(clean(store, Book()), (1, 1))


if __name__ == "__main__":
    unittest.main()
