"""Points 20 to 23: the entries of a tree, refusals, twins and the following of links."""

import unittest

from kilnyard.errors import BuildError, InvalidContent, InvalidPath, NoEntry, TreeFull
from kilnyard.trees import Tree

PERSON = ("file", "by hand", "person")
BUILD = ("file", "made", "build")
LINK = ("link", "some/where")
KINDS = (PERSON, BUILD, LINK)
NO_PATHS = ("", "/", "a/", "/a", "a//b", ".", "..", ".a", "A", "a b", "a*", "%", "a\n", "a" * 13, "a/b/c/d/e")
NO_CONTENTS = ("%", "a%b", "\t", "\r\n", "\xe4", "a" * 401, "a" * 400 + "%")


def put(tree, path, entry):
    """Writes or links such an entry."""
    if entry[0] == "file":
        return tree.write(path, entry[1], entry[2])
    return tree.link(path, entry[1])


def full_tree(count=60):
    """A tree with so many persons' entries, files and links by turns, and some files of builds."""
    tree = Tree()
    for at in range(count):
        if at in range(0, count, 2):
            tree.write("p/f" + str(at), "text", "person")
        else:
            tree.link("p/l" + str(at), "p/f0")
    for at in range(100):
        tree.write("b/f" + str(at), "made", "build")
    return tree


def answers(tree, path):
    """What a tree tells about a path, without following links."""
    return (tree.kind(path), tree.read(path), tree.writer(path), tree.target(path))


class TreeCase(unittest.TestCase):
    def check_refused(self, tree, call, kind, path):
        """The call raises this very class with this path, and nothing has changed."""
        before = dict(tree.entries)
        with self.assertRaises(BuildError) as caught:
            call()
        self.assertIs(caught.exception.__class__, kind)
        self.assertEqual(caught.exception.path, path)
        self.assertEqual(tree.entries, before)


class TestEntries(TreeCase):
    def test_a_new_tree_is_empty(self):
        tree = Tree()
        self.assertEqual(tree.entries, {})
        self.assertEqual(tree.paths(), [])
        self.assertEqual(answers(tree, "a"), ("none", None, None, None))

    def test_two_new_trees_share_nothing(self):
        first, second = Tree(), Tree()
        first.write("a", "", "person")
        self.assertEqual(second.entries, {})

    def test_a_file_of_a_person(self):
        tree = Tree()
        self.assertIsNone(tree.write("src/a.c", "int a;\n", "person"))
        self.assertEqual(answers(tree, "src/a.c"), ("file", "int a;\n", "person", None))
        self.assertEqual(tree.entries, {"src/a.c": ("file", "int a;\n", "person")})

    def test_a_file_of_a_build(self):
        tree = Tree()
        self.assertIsNone(tree.write("out/a", "made", "build"))
        self.assertEqual(answers(tree, "out/a"), ("file", "made", "build", None))
        self.assertEqual(tree.entries, {"out/a": ("file", "made", "build")})

    def test_a_link(self):
        tree = Tree()
        self.assertIsNone(tree.link("a", "b/c"))
        self.assertEqual(answers(tree, "a"), ("link", None, None, "b/c"))
        self.assertEqual(tree.entries, {"a": ("link", "b/c")})

    def test_an_empty_content(self):
        tree = Tree()
        tree.write("a", "", "person")
        tree.write("b", "", "build")
        self.assertEqual(answers(tree, "a"), ("file", "", "person", None))
        self.assertEqual(answers(tree, "b"), ("file", "", "build", None))

    def test_the_longest_content(self):
        tree = Tree()
        tree.write("a", "\n" * 400, "person")
        self.assertEqual(tree.read("a"), "\n" * 400)

    def test_reading_does_not_follow_links(self):
        tree = Tree()
        tree.write("b", "text", "person")
        tree.link("a", "b")
        self.assertEqual(answers(tree, "a"), ("link", None, None, "b"))
        self.assertEqual(answers(tree, "b"), ("file", "text", "person", None))

    def test_writing_replaces_a_link_and_not_what_it_names(self):
        tree = Tree()
        tree.write("b", "text", "person")
        tree.link("a", "b")
        tree.write("a", "new", "build")
        self.assertEqual(tree.entries, {"a": ("file", "new", "build"), "b": ("file", "text", "person")})

    def test_replacing_each_by_each(self):
        news = (("file", "new", "person"), ("file", "new", "build"), ("link", "new/target"))
        for old in KINDS:
            for new in news:
                with self.subTest(old=old, new=new):
                    tree = Tree()
                    put(tree, "other", PERSON)
                    put(tree, "a", old)
                    self.assertIsNone(put(tree, "a", new))
                    self.assertEqual(tree.entries, {"other": PERSON, "a": new})
                    fresh = Tree()
                    put(fresh, "a", new)
                    self.assertEqual(answers(tree, "a"), answers(fresh, "a"))

    def test_a_link_may_name_itself_or_nothing(self):
        tree = Tree()
        tree.link("a", "a")
        tree.link("b", "no/thing")
        self.assertEqual(tree.target("a"), "a")
        self.assertEqual(tree.target("b"), "no/thing")
        self.assertEqual(tree.kind("no/thing"), "none")

    def test_paths_are_flat_names(self):
        for upper in KINDS:
            for lower in KINDS:
                tree = Tree()
                put(tree, "a/b", lower)
                put(tree, "a", upper)
                put(tree, "a/b/c", lower)
                self.assertEqual(tree.entries, {"a": upper, "a/b": lower, "a/b/c": lower})
                tree.erase("a")
                self.assertEqual(tree.paths(), ["a/b", "a/b/c"])

    def test_strings_that_are_no_paths_have_no_entry(self):
        tree = Tree()
        for entry, path in zip(KINDS, ("a", "b", "c")):
            put(tree, path, entry)
        for value in NO_PATHS:
            with self.subTest(value=value):
                self.assertEqual(answers(tree, value), ("none", None, None, None))
                self.assertEqual(tree.resolve(value), value)
        self.assertEqual(tree.paths(), ["a", "b", "c"])

    def test_asking_changes_nothing(self):
        for entry in KINDS:
            tree = Tree()
            put(tree, "a", entry)
            for path in ("a", "b", "A"):
                answers(tree, path)
                tree.resolve(path)
            self.assertEqual(tree.entries, {"a": entry})


class TestPaths(TreeCase):
    def test_ascending_order_by_the_codes(self):
        tree = Tree()
        names = ["b", "a/c", "a", "a.c", "a_c", "ab", "a0", "aa/a", "_", "0", "a/b/c"]
        for at, path in enumerate(names):
            put(tree, path, KINDS[at % 3])
        self.assertEqual(tree.paths(), ["0", "_", "a", "a.c", "a/b/c", "a/c", "a0", "a_c", "aa/a", "ab", "b"])

    def test_each_path_once(self):
        tree = Tree()
        for entry in KINDS:
            put(tree, "b", entry)
            put(tree, "a", entry)
        self.assertEqual(tree.paths(), ["a", "b"])

    def test_the_returned_list_is_new(self):
        tree = Tree()
        put(tree, "a", PERSON)
        found = tree.paths()
        found.append("x")
        found[0] = "y"
        self.assertEqual(tree.paths(), ["a"])
        self.assertEqual(tree.entries, {"a": PERSON})


class TestErase(TreeCase):
    def test_erasing_each_kind(self):
        for entry in KINDS:
            tree = Tree()
            put(tree, "a", entry)
            put(tree, "a/b", entry)
            self.assertIsNone(tree.erase("a"))
            self.assertEqual(tree.entries, {"a/b": entry})
            self.assertEqual(answers(tree, "a"), ("none", None, None, None))
            self.check_refused(tree, lambda: tree.erase("a"), NoEntry, "a")

    def test_nothing_at_the_path(self):
        tree = Tree()
        put(tree, "a/b", PERSON)
        tree.link("c", "d")
        for path in ("a", "a/b/c", "b", "d"):
            self.check_refused(tree, lambda: tree.erase(path), NoEntry, path)

    def test_erasing_a_link_keeps_what_it_names(self):
        tree = Tree()
        put(tree, "b", PERSON)
        tree.link("a", "b")
        tree.erase("a")
        self.assertEqual(tree.entries, {"b": PERSON})

    def test_a_string_that_is_no_path(self):
        tree = Tree()
        put(tree, "a", PERSON)
        for value in NO_PATHS:
            self.check_refused(tree, lambda: tree.erase(value), NoEntry, value)


class TestRefusals(TreeCase):
    def test_a_file_at_no_path(self):
        for by in ("person", "build"):
            tree = Tree()
            put(tree, "a", PERSON)
            for value in NO_PATHS:
                self.check_refused(tree, lambda: tree.write(value, "text", by), InvalidPath, value)

    def test_a_link_at_no_path_and_to_no_path(self):
        tree = Tree()
        put(tree, "a", PERSON)
        for value in NO_PATHS:
            self.check_refused(tree, lambda: tree.link(value, "a"), InvalidPath, value)
            self.check_refused(tree, lambda: tree.link("b", value), InvalidPath, value)
            self.check_refused(tree, lambda: tree.link("a", value), InvalidPath, value)

    def test_the_path_of_a_link_comes_before_its_target(self):
        tree = Tree()
        self.check_refused(tree, lambda: tree.link("A", "B"), InvalidPath, "A")

    def test_a_text_that_is_no_content(self):
        for by in ("person", "build"):
            for entry in KINDS:
                tree = Tree()
                put(tree, "a", entry)
                for text in NO_CONTENTS:
                    self.check_refused(tree, lambda: tree.write("a", text, by), InvalidContent, "a")
                    self.check_refused(tree, lambda: tree.write("b/c", text, by), InvalidContent, "b/c")

    def test_the_path_comes_before_the_content(self):
        tree = Tree()
        for by in ("person", "build"):
            self.check_refused(tree, lambda: tree.write("A", "%", by), InvalidPath, "A")


class TestFullTree(TreeCase):
    def test_the_sixtieth_entry_has_room_and_the_next_has_not(self):
        for last in (PERSON, LINK):
            tree = full_tree(59)
            put(tree, "last", last)
            self.assertEqual(answers(tree, "last")[0], last[0])
            self.check_refused(tree, lambda: tree.write("more", "text", "person"), TreeFull, "more")
            self.check_refused(tree, lambda: tree.link("more", "a"), TreeFull, "more")

    def test_sixty_files_and_sixty_links(self):
        for entry in (PERSON, LINK):
            tree = Tree()
            for at in range(60):
                put(tree, "e" + str(at), entry)
            self.assertEqual(len(tree.entries), 60)
            self.check_refused(tree, lambda: put(tree, "more", PERSON), TreeFull, "more")
            self.check_refused(tree, lambda: put(tree, "more", LINK), TreeFull, "more")

    def test_files_of_builds_need_no_room(self):
        tree = full_tree()
        before = len(tree.entries)
        for at in range(100):
            tree.write("more/f" + str(at), "made", "build")
        self.assertEqual(len(tree.entries), before + 100)

    def test_files_of_builds_take_no_room(self):
        tree = Tree()
        for at in range(200):
            tree.write("b/f" + str(at), "made", "build")
        for at in range(60):
            tree.write("p/f" + str(at), "text", "person")
        self.check_refused(tree, lambda: tree.write("more", "text", "person"), TreeFull, "more")

    def test_a_path_with_a_persons_entry_has_room(self):
        for path in ("p/f0", "p/l1"):
            for new in (("file", "new", "person"), ("link", "new/target"), ("file", "new", "build")):
                tree = full_tree()
                put(tree, path, new)
                self.assertEqual(tree.entries[path], new)

    def test_a_path_with_a_file_of_a_build_has_no_room(self):
        tree = full_tree()
        self.check_refused(tree, lambda: tree.write("b/f7", "text", "person"), TreeFull, "b/f7")
        self.check_refused(tree, lambda: tree.link("b/f7", "a"), TreeFull, "b/f7")
        tree.write("b/f7", "new", "build")
        self.assertEqual(tree.entries["b/f7"], ("file", "new", "build"))

    def test_a_path_with_a_file_of_a_build_takes_the_last_room(self):
        tree = full_tree(59)
        tree.write("b/f7", "text", "person")
        self.check_refused(tree, lambda: tree.link("more", "a"), TreeFull, "more")

    def test_room_after_an_erasing(self):
        for path in ("p/f0", "p/l1"):
            for new in (PERSON, LINK):
                tree = full_tree()
                tree.erase(path)
                put(tree, "more", new)
                self.assertEqual(tree.entries["more"], new)
                self.check_refused(tree, lambda: put(tree, path, new), TreeFull, path)

    def test_no_room_after_erasing_a_file_of_a_build(self):
        tree = full_tree()
        tree.erase("b/f0")
        self.check_refused(tree, lambda: put(tree, "b/f0", PERSON), TreeFull, "b/f0")

    def test_room_after_a_build_replaced_a_persons_entry(self):
        for path in ("p/f0", "p/l1"):
            tree = full_tree()
            tree.write(path, "made", "build")
            tree.write("more", "text", "person")
            self.check_refused(tree, lambda: put(tree, path, PERSON), TreeFull, path)

    def test_other_refusals_come_before_a_full_tree(self):
        tree = full_tree()
        self.check_refused(tree, lambda: tree.write("A", "%", "person"), InvalidPath, "A")
        self.check_refused(tree, lambda: tree.write("A", "text", "person"), InvalidPath, "A")
        self.check_refused(tree, lambda: tree.write("more", "%", "person"), InvalidContent, "more")
        self.check_refused(tree, lambda: tree.link("A", "a"), InvalidPath, "A")
        self.check_refused(tree, lambda: tree.link("more", "B"), InvalidPath, "B")

    def test_a_twin_of_a_full_tree_is_full(self):
        twin = full_tree().twin()
        self.check_refused(twin, lambda: twin.link("more", "a"), TreeFull, "more")


class TestTwins(TreeCase):
    def test_a_twin_has_the_same_entries(self):
        tree = Tree()
        for entry, path in zip(KINDS, ("a", "b", "c")):
            put(tree, path, entry)
        twin = tree.twin()
        self.assertIsInstance(twin, Tree)
        self.assertIsNot(twin, tree)
        self.assertEqual(twin.entries, {"a": PERSON, "b": BUILD, "c": LINK})

    def test_changes_do_not_reach_the_other_tree(self):
        for at in (0, 1):
            tree = Tree()
            for entry, path in zip(KINDS, ("a", "b", "c")):
                put(tree, path, entry)
            pair = (tree, tree.twin())
            pair[at].write("a", "new", "build")
            pair[at].link("b", "x")
            pair[at].erase("c")
            pair[at].write("d", "more", "person")
            self.assertEqual(pair[1 - at].entries, {"a": PERSON, "b": BUILD, "c": LINK})
            self.assertEqual(pair[at].paths(), ["a", "b", "d"])

    def test_a_twin_of_an_empty_tree(self):
        tree = Tree()
        twin = tree.twin()
        twin.write("a", "", "person")
        self.assertEqual(tree.entries, {})


class TestResolve(TreeCase):
    def chain(self, count):
        """A tree with links from l0 to l1 and so on; so many links lead to the end."""
        tree = Tree()
        for at in range(count):
            tree.link("l" + str(at), "l" + str(at + 1))
        return tree

    def test_chains(self):
        for count in (0, 1, 2, 7, 8):
            for entry in (PERSON, BUILD, None):
                with self.subTest(count=count, entry=entry):
                    tree = self.chain(count)
                    if entry is not None:
                        put(tree, "l" + str(count), entry)
                    before = dict(tree.entries)
                    self.assertEqual(tree.resolve("l0"), "l" + str(count))
                    self.assertEqual(tree.entries, before)

    def test_chains_that_are_too_long(self):
        for count in (9, 10, 30):
            for entry in (PERSON, BUILD, None):
                with self.subTest(count=count, entry=entry):
                    tree = self.chain(count)
                    if entry is not None:
                        put(tree, "l" + str(count), entry)
                    before = dict(tree.entries)
                    self.assertIsNone(tree.resolve("l0"))
                    self.assertEqual(tree.entries, before)
                    self.assertEqual(tree.resolve("l" + str(count - 8)), "l" + str(count))

    def test_rings(self):
        for count in range(1, 12):
            tree = Tree()
            for at in range(count):
                tree.link("l" + str(at), "l" + str((at + 1) % count))
            before = dict(tree.entries)
            for at in range(count):
                self.assertIsNone(tree.resolve("l" + str(at)))
            self.assertEqual(tree.entries, before)

    def test_a_way_into_a_ring(self):
        tree = Tree()
        tree.link("a", "b")
        tree.link("b", "c")
        tree.link("c", "b")
        self.assertIsNone(tree.resolve("a"))

    def test_nothing_at_the_path(self):
        tree = Tree()
        self.assertEqual(tree.resolve("a"), "a")
        self.assertEqual(tree.entries, {})

    def test_links_of_a_directory_are_not_followed(self):
        tree = Tree()
        tree.link("a", "b")
        self.assertEqual(tree.resolve("a/c"), "a/c")


if __name__ == "__main__":
    unittest.main()
