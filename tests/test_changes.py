"""Points 190 to 193: what a change touches."""

import random
import unittest

from kilnyard.changes import changed_paths, touched_jobs
from kilnyard.plain import build_from_nothing
from kilnyard.trees import Tree
from tests.helpers import GOALS, RULES, Yard, change_world, copies, joins, write_rules


def tree_of(**entries):
    """A tree with files of persons, or with entries that are written out."""
    tree = Tree()
    for path, entry in entries.items():
        tree.entries[path] = ("file", entry, "person") if isinstance(entry, str) else entry
    return tree


class TestChangedPaths(unittest.TestCase):
    def check(self, before, after, paths):
        entries = (dict(before.entries), dict(after.entries))
        self.assertEqual(changed_paths(before, after), paths.split())
        self.assertEqual(changed_paths(after, before), paths.split())
        self.assertEqual((before.entries, after.entries), entries)

    def test_nothing(self):
        self.check(tree_of(), tree_of(), "")
        self.check(tree_of(a="1", b=("link", "a")), tree_of(a="1", b=("link", "a")), "")

    def test_entries_in_one_tree_only(self):
        self.check(tree_of(b="", a=""), tree_of(), "a b")
        self.check(tree_of(a="", c=("link", "z")), tree_of(b=""), "a b c")

    def test_a_link_and_a_file(self):
        self.check(tree_of(a="b"), tree_of(a=("link", "b")), "a")

    def test_contents_and_targets(self):
        self.check(tree_of(a="1", b="1", c=("link", "a"), d=("link", "a")),
                   tree_of(a="2", b="1", c=("link", "b"), d=("link", "a")), "a c")

    def test_files_of_builds_have_no_influence(self):
        built = ("file", "1", "build")
        self.check(tree_of(a=built), tree_of(), "")
        self.check(tree_of(a=built), tree_of(a=("file", "2", "build")), "")
        self.check(tree_of(a=built), tree_of(a="1"), "a")
        self.check(tree_of(a=built), tree_of(a=("link", "1")), "a")

    def test_an_empty_file_is_an_entry(self):
        self.check(tree_of(a=""), tree_of(), "a")
        self.check(tree_of(a=""), tree_of(a=("file", "", "build")), "a")

    def test_the_order(self):
        paths = ["a/b", "a", "b", "a.b", "a_"]
        self.check(tree_of(**{path: "" for path in paths}), tree_of(), " ".join(sorted(paths)))

    def test_the_list_is_new(self):
        before, after = tree_of(a=""), tree_of()
        changed_paths(before, after).clear()
        self.check(before, after, "a")


class TestTouchedJobs(unittest.TestCase):
    def check(self, recipes, goals, change, touched, files=(), links=(), settings=None):
        """After a change these jobs are touched; asking changes nothing."""
        yard = Yard(recipes, files, links)
        yard.settings = settings or {}
        after = Yard(recipes, files, links)
        after.settings = dict(yard.settings)
        change(after)
        before = (yard.all_kept(), after.all_kept())
        found = touched_jobs(yard.book, goals.split(), yard.tree, yard.settings, after.tree, after.settings)
        self.assertEqual(found, touched.split())
        self.assertEqual((yard.all_kept(), after.all_kept()), before)

    def test_no_change(self):
        self.check(joins("a : s", "b : a"), "b", lambda after: None, "", {"s": "1"})

    def test_a_file_that_was_read(self):
        self.check(joins("a : s", "b : a", "c :"), "b c", lambda after: after.write(s="2"), "a b", {"s": "1"})

    def test_a_file_that_was_not_read(self):
        self.check("rule a : s\n put 1 stem\nend", "a", lambda after: after.write(s="2"), "", {"s": "1"})
        self.check(joins("a :"), "a", lambda after: after.write(t="2"), "", {"s": "1"})

    def test_an_input_that_is_gone(self):
        recipes = "rule a : s\n put 1 stem\nend"
        self.check(recipes, "a", lambda after: after.tree.erase("s"), "a", {"s": "1"})
        self.check(recipes, "a", lambda after: after.tree.link("s", "t"), "a", {"s": "1", "t": ""})
        self.check(recipes, "a", lambda after: after.tree.write("s", "1", "build"), "a", {"s": "1"})

    def test_an_input_that_a_job_makes(self):
        # What lies at `b` makes no difference.
        for change in (lambda after: after.write(b="1"), lambda after: after.tree.erase("b"),
                       lambda after: after.tree.link("b", "a")):
            self.check(joins("a : b", "b :"), "a", change, "", {"b": "0"})

    def test_each_kind_of_need(self):
        for body, change, touched in (
                ('read("s")', lambda after: after.write(s="2"), "a"),
                ('read("s")', lambda after: after.tree.erase("s"), "a"),
                ('has("s")', lambda after: after.write(s="2"), ""),
                ('has("s")', lambda after: after.tree.erase("s"), "a"),
                ('has("t")', lambda after: after.write(t=""), "a"),
                ('has("t")', lambda after: after.tree.write("t", "", "build"), ""),
                ('has("b")', lambda after: after.write(b=""), ""),
                ('read("l")', lambda after: after.tree.link("l", "t"), "a"),
                ('has("l")', lambda after: after.tree.link("l", "m"), "a"),
                ('list("", "*.c")', lambda after: after.write(**{"z.c": ""}), "a"),
                ('list("", "*.c")', lambda after: after.tree.write("z.c", "", "build"), ""),
                ('list("", "*.c")', lambda after: after.write(**{"y.c": "2"}), ""),
                ('list("", "*.c")', lambda after: after.tree.erase("y.c"), "a"),
                ('setting("m")', lambda after: after.settings.update(m="2"), "a"),
                ('setting("m")', lambda after: after.settings.pop("m"), "a"),
                ('setting("n")', lambda after: after.settings.update(n=""), "a"),
                ('setting("d")', lambda after: after.settings.update(d="0"), ""),
                ('setting("d")', lambda after: after.settings.update(d="1"), "a"),
                ('setting("m")', lambda after: after.settings.update(n="2"), ""),
                ("stem", lambda after: after.settings.update(m="2"), "")):
            recipes = f'set d "0"\nrule a :\n put 1 {body}\nend\n' + joins("b :")
            self.check(recipes, "a", change, touched, {"s": "1", "y.c": ""}, {"l": "s"}, {"m": "1"})

    def test_settings_and_directories_with_the_names_of_jobs(self):
        recipes = 'rule a :\n put 1 setting("b")\nend\nrule c :\n put 1 list("b", "*")\nend\n' + joins("b :")
        self.check(recipes, "a b c", lambda after: after.settings.update(b="2"), "a", (), (), {"b": "1"})
        self.check(recipes, "a b c", lambda after: after.write(**{"b/x": ""}), "c", (), (), {"b": "1"})

    def test_the_same_text_from_elsewhere(self):
        # The answers are the same, although the setting comes from the book now.
        self.check('set d "0"\nrule a :\n put 1 setting("d")\nend\n', "a", lambda after: after.settings.clear(), "",
                   (), (), {"d": "0"})

    def test_touched_by_what_was_read(self):
        recipes = copies(("a", "b"), ("b", "c"), ("x", "s")) + joins("c : s", "d : t")
        self.check(recipes, "a d x", lambda after: after.write(s="2"), "a b c x", {"s": "1", "t": ""})
        self.check(recipes, "a d x", lambda after: after.write(t="2"), "d", {"s": "1", "t": ""})

    def test_a_touched_job_touches_its_users_although_it_gives_the_same(self):
        recipes = 'rule b : s\n put 1 count(read("s"))\nend\n' + joins("a : b")
        self.check(recipes, "a", lambda after: after.write(s="2"), "a b", {"s": "1"})

    def test_an_input_that_was_not_read(self):
        recipes = "rule a : b\n put 1 stem\nend\n" + joins("b : s")
        self.check(recipes, "a", lambda after: after.write(s="2"), "a b", {"s": "1"})

    def test_has_does_not_touch(self):
        recipes = 'rule a :\n put 1 has("b")\nend\n' + joins("b : s")
        self.check(recipes, "a b", lambda after: after.write(s="2"), "b", {"s": "1"})

    def test_only_done_jobs_are_touched(self):
        recipes = ('rule a : s\n let x read("s")\n fail\nend\n' + joins("b : a", "c : no", "d : s")
                   + copies(("r", "r")))
        self.check(recipes, "a b c d r", lambda after: after.write(s="2", no=""), "d", {"s": "1"})

    def test_only_needed_jobs_are_touched(self):
        self.check(joins("a : s", "b : s"), "b", lambda after: after.write(s="2"), "b", {"s": "1"})

    def test_the_last_run_counts(self):
        # The last run of `a` is not the first one, which was held at `b`.
        recipes = 'rule a :\n put 1 read("b") + read("s")\nend\n' + joins("b :")
        self.check(recipes, "a", lambda after: after.write(s="2"), "a", {"s": "1"})

    def test_jobs_that_come_to_be_needed(self):
        recipes = 'rule a :\n put 1 read(read("s"))\nend\n' + joins("b :", "c :")
        self.check(recipes, "a", lambda after: after.write(s="c"), "a", {"s": "b"})

    def test_too_many_jobs(self):
        recipes = ("rule *.a : *.b\n put 1 stem\nend\nrule *.b : *.c\n put 1 stem\nend\nrule *.c : z\n"
                   ' put 1 read("z")\nend\n' + joins("z : s"))
        goals = " ".join([f"f{at}.a" for at in range(20)])
        self.check(recipes, goals, lambda after: after.write(s="2"), "", {"s": "1"})
        self.check(recipes, "f0.a", lambda after: after.write(s="2"), "f0.a f0.b f0.c z", {"s": "1"})

    def test_the_list_is_new(self):
        yard = Yard(joins("a : s"), {"s": "1"})
        for _ in range(2):
            found = touched_jobs(yard.book, ["a"], yard.tree, {}, Tree(), {})
            self.assertEqual(found, ["a"])
            found.clear()


class TestUntouched(unittest.TestCase):
    """Point 193: jobs that a change does not touch keep their contents."""

    def test_worlds(self):
        untouched = 0
        for seed in range(120):
            rng = random.Random(seed)
            yard = Yard("", {"a.c": "a", "b.c": "b", "pick": "1", "which": "a.o"}, {"ln": "a.c"})
            write_rules(lambda path, text: yard.write(**{path: text}), list(RULES))
            settings = {}

            def change(tree, own):
                change_world(rng, lambda path, text: tree.write(path, text, "person"), tree.link,
                             lambda path: tree.kind(path) == "none" or tree.erase(path), own)
            for _ in range(rng.randrange(5)):
                change(yard.tree, settings)
            after, after_settings = yard.tree.twin(), dict(settings)
            for _ in range(rng.randrange(1, 3)):
                change(after, after_settings)
            book, goals = yard.book, [rng.choice(GOALS) for _ in range(5)]
            touched = touched_jobs(book, goals, yard.tree, settings, after, after_settings)
            self.assertEqual(touched, sorted(touched))
            one = build_from_nothing(yard.tree, book, settings, goals)
            other = build_from_nothing(after, book, after_settings, goals)
            for name in one.jobs:
                if name in one.contents and name not in touched and name in other.jobs:
                    untouched += 1
                    self.assertEqual(other.contents.get(name), one.contents[name])
            self.assertTrue(set(touched) <= set(one.contents))
            if changed_paths(yard.tree, after) == [] and settings == after_settings:
                self.assertEqual(touched, [])
        self.assertGreater(untouched, 100)


if __name__ == "__main__":
    unittest.main()
