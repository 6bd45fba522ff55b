"""Point 100: views."""

import copy
import unittest

from kilnyard.errors import Held
from kilnyard.keys import content_key
from kilnyard.recipes import Book, parse_book
from kilnyard.records import Record, first_change
from kilnyard.running import run_tool
from kilnyard.targets import listing_text, make_job, maker
from kilnyard.trees import Tree
from kilnyard.views import View

RECIPES = """set one "1"
set none ""
rule all list :
  put 1 read("x.o")
  put 2 list("", "*")
end
rule *.o *.d : *.c
  put 1 upper(read(stem + ".c"))
  put 2 stem
end
rule s* *s :
end
"""


class ViewCase(unittest.TestCase):
    def setUp(self):
        self.tree = Tree()
        for path, text in (("rules", RECIPES), ("x.c", "x"), ("d/y.c", "")):
            self.tree.write(path, text, "person")
        self.book = parse_book(self.tree)
        self.settings = {"own": "2", "empty": ""}
        self.view = View(self.tree, self.book, self.settings)

    def job(self, path):
        return maker(self.book, path)

    def check(self, question, text):
        """The view sees the key of this text, or this value if it is no text."""
        before = copy.deepcopy((self.tree.entries, self.book.settings, self.book.rules, self.book.files, self.settings))
        seen = content_key(text) if isinstance(text, str) else text
        with self.subTest(question=question):
            # The key of the empty text is equal to True, but it is written otherwise.
            self.assertEqual(repr(self.view.see(question)), repr(seen))
            self.assertEqual((self.tree.entries, self.book.settings, self.book.rules, self.book.files, self.settings),
                             before)

    def check_held(self, question, name, view=None):
        with self.subTest(question=question):
            with self.assertRaises(Held) as caught:
                (view or self.view).see(question)
            self.assertEqual(caught.exception.job, self.job(name))
            self.assertEqual(caught.exception.job.name(), name)


class TestAttributes(ViewCase):
    def test_the_tree_and_the_book_are_not_copied(self):
        self.assertIs(self.view.tree, self.tree)
        self.assertIs(self.view.book, self.book)

    def test_the_settings_are_copied(self):
        self.assertEqual(self.view.settings, self.settings)
        self.settings["own"] = "3"
        self.settings["more"] = ""
        self.assertEqual(self.view.settings, {"own": "2", "empty": ""})
        self.check(("setting", "own"), "2")
        self.check(("setting", "more"), None)

    def test_an_empty_view(self):
        self.view = View(Tree(), Book(), {})
        self.check(("file", "a"), None)
        self.check(("has", "a"), False)
        self.check(("link", "a"), None)
        self.check(("setting", "a"), None)
        self.check(("listing", "", "*"), "")


class TestFiles(ViewCase):
    def test_a_file_of_a_person_that_no_job_makes(self):
        self.check(("file", "x.c"), "x")
        self.check(("file", "d/y.c"), "")
        self.check(("file", "rules"), RECIPES)

    def test_nothing_at_a_path_that_no_job_makes(self):
        self.check(("file", "y.c"), None)
        self.check(("file", "d/x.o"), None)

    def test_a_file_of_a_build_that_no_job_makes(self):
        self.tree.write("y.c", "built", "build")
        self.check(("file", "y.c"), None)

    def test_a_link_that_no_job_makes(self):
        self.tree.link("l", "x.c")
        self.check(("file", "l"), None)

    def test_a_path_whose_job_is_not_done(self):
        for path, name in (("x.o", "x.o"), ("x.d", "x.o"), ("all", "all"), ("list", "all"), ("q.o", "q.o")):
            self.check_held(("file", path), name)
        self.tree.write("x.o", "old", "build")
        self.tree.write("q.o", "old", "person")
        self.check_held(("file", "x.o"), "x.o")
        self.check_held(("file", "q.o"), "q.o")

    def test_a_path_whose_job_is_done(self):
        self.view.mark_done(self.job("x.o"))
        self.check(("file", "x.o"), None)
        self.tree.write("x.o", "new", "build")
        self.tree.write("x.d", "", "person")
        self.check(("file", "x.o"), "new")
        self.check(("file", "x.d"), "")
        self.check_held(("file", "all"), "all")
        self.check_held(("file", "y.o"), "y.o")

    def test_what_a_done_job_made_is_seen_as_it_is_now(self):
        self.view.mark_done(self.job("x.o"))
        for text, by in (("1", "build"), ("2", "person"), ("", "build")):
            self.tree.write("x.o", text, by)
            self.check(("file", "x.o"), text)
        self.tree.erase("x.o")
        self.check(("file", "x.o"), None)
        self.tree.link("x.o", "x.c")
        self.check(("file", "x.o"), None)

    def test_a_path_that_is_owned_but_not_made(self):
        self.check(("file", "ss"), None)
        self.tree.write("ss", "person", "person")
        self.check(("file", "ss"), "person")
        self.tree.write("ss", "build", "build")
        self.check(("file", "ss"), None)

    def test_the_tree_is_seen_as_it_is_now(self):
        self.tree.write("x.c", "new", "person")
        self.check(("file", "x.c"), "new")
        self.tree.erase("x.c")
        self.check(("file", "x.c"), None)


class TestOtherQuestions(ViewCase):
    def test_has(self):
        self.tree.link("l", "x.c")
        self.tree.write("b", "", "build")
        self.tree.write("ss", "", "build")
        for path, there in (("x.c", True), ("rules", True), ("d/y.c", True), ("all", True), ("list", True),
                            ("x.o", True), ("q.d", True), ("y.c", False), ("l", False), ("b", False), ("ss", False),
                            ("d", False), ("d/x.o", False)):
            self.check(("has", path), there)
        self.view.mark_done(self.job("x.o"))
        self.check(("has", "x.o"), True)

    def test_listings(self):
        self.tree.link("l", "nowhere")
        self.tree.write("b", "", "build")
        self.tree.write("x.o", "", "person")
        self.check(("listing", "", "*"), "all\nl\nlist\nrules\nx.c")
        self.check(("listing", "", "*.c"), "x.c")
        self.check(("listing", "d", "*"), "d/y.c")
        self.check(("listing", "e", "*"), "")

    def test_a_listing_that_is_cut(self):
        for at in range(40):
            self.tree.write("d/" + str(at) + "x" * 8, "", "person")
        self.check(("listing", "d", "*"), listing_text(self.tree, self.book, "d", "*"))
        self.assertEqual(len(listing_text(self.tree, self.book, "d", "*")), 401)

    def test_settings(self):
        for name, text in (("one", "1"), ("none", ""), ("own", "2"), ("empty", ""), ("other", None)):
            self.check(("setting", name), text)
        self.view = View(self.tree, self.book, {"one": "own", "none": "x"})
        self.check(("setting", "one"), "own")
        self.check(("setting", "none"), "x")
        self.view = View(self.tree, self.book, {"one": ""})
        self.check(("setting", "one"), "")

    def test_links(self):
        self.tree.link("l", "x.c")
        self.tree.link("m", "nowhere")
        self.tree.link("x.o", "x.c")
        self.tree.link("q.o", "x.c")
        for path, target in (("l", "x.c"), ("m", "nowhere"), ("x.o", None), ("q.o", None), ("x.c", None),
                             ("other", None), ("all", None)):
            self.check(("link", path), target)
        self.view.mark_done(self.job("x.o"))
        self.check(("link", "x.o"), None)

    def test_a_link_at_a_path_that_is_owned_but_not_made(self):
        self.tree.link("ss", "x.c")
        self.check(("link", "ss"), "x.c")

    def test_is_source(self):
        self.tree.link("l", "x.c")
        self.tree.write("b", "", "build")
        self.tree.write("x.o", "", "person")
        self.tree.write("list", "", "person")
        self.tree.write("ss", "", "person")
        for path, expected in (("x.c", True), ("d/y.c", True), ("rules", True), ("ss", True), ("l", False),
                               ("b", False), ("x.o", False), ("list", False), ("all", False), ("other", False)):
            with self.subTest(path=path):
                self.assertIs(self.view.is_source(path), expected)

    def test_is_source_does_not_depend_on_what_is_done(self):
        self.view.mark_done(self.job("x.o"))
        self.tree.write("x.o", "", "person")
        self.assertIs(self.view.is_source("x.o"), False)


class TestDone(ViewCase):
    def test_no_job_is_done_at_first(self):
        for path in ("all", "x.o"):
            self.assertIs(self.view.is_done(self.job(path)), False)

    def test_jobs_become_done(self):
        self.assertIsNone(self.view.mark_done(self.job("x.o")))
        self.assertIs(self.view.is_done(self.job("x.o")), True)
        self.assertIs(self.view.is_done(self.job("x.d")), True)
        self.assertIs(self.view.is_done(self.job("y.o")), False)
        self.assertIs(self.view.is_done(self.job("all")), False)
        self.view.mark_done(self.job("all"))
        self.assertIs(self.view.is_done(self.job("list")), True)

    def test_a_job_that_is_done_twice(self):
        self.view.mark_done(self.job("x.o"))
        self.view.mark_done(self.job("x.o"))
        self.assertIs(self.view.is_done(self.job("x.o")), True)

    def test_jobs_are_told_apart_by_their_rules_and_stems(self):
        self.view.mark_done(make_job(self.book, 1, "x"))
        for rule, stem in ((1, "y"), (2, "x"), (0, "")):
            self.assertIs(self.view.is_done(make_job(self.book, rule, stem)), False)

    def test_views_have_nothing_in_common(self):
        other = View(self.tree, self.book, self.settings)
        self.view.mark_done(self.job("x.o"))
        self.assertIs(other.is_done(self.job("x.o")), False)


class TestWithout(ViewCase):
    def setUp(self):
        ViewCase.setUp(self)
        for path in ("x.o", "y.o", "all"):
            self.view.mark_done(self.job(path))
            self.tree.write(path, path, "build")

    def done(self, view):
        return [path for path in ("x.o", "y.o", "z.o", "all") if view.is_done(self.job(path))]

    def test_the_job_of_the_name_is_not_done(self):
        for name in ("x.o", "y.o", "all"):
            view = self.view.without(name)
            self.assertIsInstance(view, View)
            self.assertEqual(self.done(view), [other for other in ("x.o", "y.o", "all") if other != name])
            self.check_held(("file", name), name, view)

    def test_the_rest_is_the_same(self):
        view = self.view.without("x.o")
        self.assertIs(view.tree, self.tree)
        self.assertIs(view.book, self.book)
        self.assertEqual(view.settings, self.settings)
        for question in (("file", "y.o"), ("file", "x.c"), ("has", "x.o"), ("link", "x.o"), ("listing", "", "*"),
                         ("setting", "one"), ("setting", "own")):
            self.assertEqual(view.see(question), self.view.see(question))

    def test_a_name_of_no_done_job(self):
        for name in ("z.o", "x.d", "list", "other"):
            self.assertEqual(self.done(self.view.without(name)), ["x.o", "y.o", "all"])

    def test_neither_side_sees_what_becomes_done_on_the_other(self):
        view = self.view.without("x.o")
        view.mark_done(self.job("z.o"))
        self.assertEqual(self.done(self.view), ["x.o", "y.o", "all"])
        self.view.mark_done(self.job("q.o"))
        self.assertIs(view.is_done(self.job("q.o")), False)
        view.mark_done(self.job("x.o"))
        self.assertEqual(self.done(view), ["x.o", "y.o", "z.o", "all"])
        self.assertEqual(self.done(self.view), ["x.o", "y.o", "all"])

    def test_the_settings_are_copied(self):
        view = self.view.without("x.o")
        self.assertIsNot(view.settings, self.view.settings)
        view.settings["own"] = "changed"
        self.assertEqual(self.view.settings, self.settings)
        self.view.settings["one"] = "changed"
        self.assertEqual(view.see(("setting", "one")), content_key("1"))

    def test_both_see_the_same_tree(self):
        view = self.view.without("x.o")
        self.tree.write("x.c", "new", "person")
        self.tree.write("y.o", "new", "build")
        for question in (("file", "x.c"), ("file", "y.o")):
            self.assertEqual(view.see(question), content_key("new"))
            self.assertEqual(self.view.see(question), content_key("new"))

    def test_one_after_the_other(self):
        self.assertEqual(self.done(self.view.without("x.o").without("all")), ["y.o"])


class TestRunsOnViews(ViewCase):
    def test_a_run_is_held_until_a_job_is_done(self):
        run = run_tool(self.book, self.job("all"), self.view)
        self.assertEqual((run.outcome, run.held, run.needs), ("held", self.job("x.o"), (("link", "x.o", None),)))
        made = run_tool(self.book, self.job("x.o"), self.view)
        self.assertEqual((made.outcome, made.outputs), ("done", ("X", "x")))
        self.tree.write("x.o", made.outputs[0], "build")
        self.view.mark_done(self.job("x.o"))
        run = run_tool(self.book, self.job("all"), self.view)
        self.assertEqual((run.outcome, run.outputs), ("done", ("X", "all\nlist\nrules\nx.c")))

    def test_a_run_changes_nothing(self):
        def all_there_is():
            return (self.tree.entries, self.book.settings, self.book.rules, self.book.files, self.settings,
                    self.view.settings)

        before = copy.deepcopy(all_there_is())
        for path, outcome in (("all", "held"), ("x.o", "done"), ("y.o", "failed")):
            self.assertEqual(run_tool(self.book, self.job(path), self.view).outcome, outcome)
            self.assertEqual(all_there_is(), before)
            self.assertIs(self.view.is_done(self.job(path)), False)

    def test_the_needs_of_a_run_are_unchanged_until_something_changes(self):
        run = run_tool(self.book, self.job("x.o"), self.view)
        record = Record(("x.o", "x.d"), 5, run.needs, tuple([content_key(text) for text in run.outputs]))
        self.assertIsNone(first_change(record, self.view))
        self.tree.write("x.c", "y", "person")
        self.assertEqual(first_change(record, self.view), 1)
        self.tree.link("x.c", "d/y.c")
        self.assertEqual(first_change(record, self.view), 0)

    def test_held_passes_through(self):
        record = Record(("all", "list"), 5, (("link", "x.o", None), ("file", "x.o", 1)), (1, 1))
        with self.assertRaises(Held) as caught:
            first_change(record, self.view)
        self.assertEqual(caught.exception.job, self.job("x.o"))


if __name__ == "__main__":
    unittest.main()
