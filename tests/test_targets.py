"""Points 58 and 65 to 68: jobs, owners, makers, rule texts and listings."""

import copy
import unittest

from kilnyard.errors import InvalidPath
from kilnyard.keys import content_key, key_text
from kilnyard.printing import format_rule
from kilnyard.recipes import Book, Rule, parse_book
from kilnyard.targets import (Job, listing_text, make_job, maker, makers_of, owner, plain_outputs, rule_key,
                              rule_text)
from kilnyard.trees import Tree


def tree_of(files):
    tree = Tree()
    for path, text in files.items():
        tree.write(path, text, "person")
    return tree


def book_of(text, **files):
    """The book of the first recipe file, and of the files that it names."""
    return parse_book(tree_of({"rules": text, **files}))


def rules(*heads):
    """The book of rules with these outputs and inputs, and without statements."""
    return book_of("\n".join(["rule " + head + "\nend" for head in heads]))


def facts(job):
    """What a job is made of, or None."""
    return None if job is None else (job.rule, job.stem, job.outputs, job.inputs)


class TestJob(unittest.TestCase):
    def test_attributes_and_name(self):
        job = Job(3, "x", ("b.x", "a.x"), ("c",))
        self.assertEqual(facts(job), (3, "x", ("b.x", "a.x"), ("c",)))
        self.assertEqual(job.name(), "b.x")

    def test_jobs_are_equal_if_their_rules_and_stems_are(self):
        self.assertEqual(Job(0, "x", ("a",), ()), Job(0, "x", ("b",), ("c",)))
        self.assertFalse(Job(0, "x", ("a",), ()) != Job(0, "x", ("b",), ("c",)))
        self.assertNotEqual(Job(0, "x", ("a",), ()), Job(1, "x", ("a",), ()))
        self.assertNotEqual(Job(0, "x", ("a",), ()), Job(0, "y", ("a",), ()))
        self.assertNotEqual(Job(0, "", ("a",), ()), None)
        self.assertNotEqual(Job(0, "", ("a",), ()), (0, ""))


class TestMakeJob(unittest.TestCase):
    def check_error(self, book, stem, path):
        with self.assertRaises(InvalidPath) as caught:
            make_job(book, 0, stem)
        self.assertEqual(caught.exception.path, path)

    def test_a_plain_rule(self):
        book = rules("x :", "b a : d/c c d/c")
        self.assertEqual(facts(make_job(book, 1, "")), (1, "", ("b", "a"), ("d/c", "c", "d/c")))

    def test_a_pattern_rule(self):
        book = rules("out/*.o *.d : src/*.c all lib/*")
        self.assertEqual(facts(make_job(book, 0, "main")),
                         (0, "main", ("out/main.o", "main.d"), ("src/main.c", "all", "lib/main")))

    def test_the_first_output_that_is_no_path_is_told(self):
        book = rules("*.o x*/y : *.c")
        self.check_error(book, "A", "A.o")
        self.check_error(book, "x" * 11, "x" * 11 + ".o")
        self.check_error(book, "", ".o")

    def test_a_later_output_comes_before_the_inputs(self):
        book = rules("* long* : *.c")
        self.check_error(book, "x" * 9, "long" + "x" * 9)

    def test_the_first_input_that_is_no_path_is_told(self):
        book = rules("* : a/* a/b/c/* long* longer*")
        self.check_error(book, "x" * 9, "long" + "x" * 9)
        self.check_error(book, "x/y", "a/b/c/x/y")

    def test_an_empty_stem(self):
        book = rules("a*b :")
        self.assertEqual(facts(make_job(book, 0, "")), (0, "", ("ab",), ()))


class TestOwner(unittest.TestCase):
    def check(self, book, path, expected):
        before = copy.deepcopy(book)
        with self.subTest(path=path):
            self.assertEqual(facts(owner(book, path)), expected)
            self.assertEqual((book.rules, book.files), (before.rules, before.files))

    def test_nothing_owns_other_paths(self):
        book = rules("a : b", "*.o : *.c")
        for path in ("b", "c", "a/a", "x.c", "d/x.o"):
            self.check(book, path, None)

    def test_an_empty_book(self):
        self.check(Book(), "rules", None)
        self.check(Book(), "a", None)

    def test_plain_rules(self):
        book = rules("a : x", "c b : y")
        self.check(book, "a", (0, "", ("a",), ("x",)))
        self.check(book, "b", (1, "", ("c", "b"), ("y",)))
        self.check(book, "c", (1, "", ("c", "b"), ("y",)))

    def test_pattern_rules(self):
        book = rules("*.o d/*.o : *.c")
        self.check(book, "x.o", (0, "x", ("x.o", "d/x.o"), ("x.c",)))
        self.check(book, "d/y.o", (0, "y", ("y.o", "d/y.o"), ("y.c",)))
        self.check(book, ".o", None)

    def test_plain_rules_come_before_pattern_rules(self):
        book = rules("* : y", "a : x")
        self.check(book, "a", (1, "", ("a",), ("x",)))
        self.check(book, "b", (0, "b", ("b",), ("y",)))

    def test_the_first_pattern_rule_that_applies(self):
        book = rules("x* : 1*", "*y : 2*", "* : 3*")
        self.check(book, "xy", (0, "y", ("xy",), ("1y",)))
        self.check(book, "zy", (1, "z", ("zy",), ("2z",)))
        self.check(book, "z", (2, "z", ("z",), ("3z",)))

    def test_the_stem_is_that_of_the_first_output_that_matches(self):
        book = rules("x* *y :")
        self.check(book, "xy", (0, "y", ("xy", "yy"), ()))
        self.check(book, "zy", (0, "z", ("xz", "zy"), ()))

    def test_a_rule_does_not_apply_if_an_output_is_no_path(self):
        book = rules("* long_name* :", "* :")
        self.check(book, "abc", (0, "abc", ("abc", "long_nameabc"), ()))
        self.check(book, "abcd", (1, "abcd", ("abcd",), ()))

    def test_a_rule_does_not_apply_if_an_input_is_no_path(self):
        book = rules("* : long_name*")
        self.check(book, "abc", (0, "abc", ("abc",), ("long_nameabc",)))
        self.check(book, "abcd", None)

    def test_a_later_output_is_not_tried_if_the_first_stem_does_not_fit(self):
        # The stem of the second output would be shorter.
        book = rules("*y xxxxxxxx*y :")
        self.check(book, "xxxxxxxxay", None)
        self.check(book, "ay", (0, "a", ("ay", "xxxxxxxxay"), ()))

    def test_recipe_files_have_no_owner(self):
        book = book_of("use more\nuse d/e\nrule * :\nend\nrule d/* :\nend", more="", **{"d/e": ""})
        for path in ("rules", "more", "d/e"):
            self.check(book, path, None)
        self.check(book, "other", (0, "other", ("other",), ()))
        self.check(book, "d/f", (1, "f", ("d/f",), ()))


class TestMaker(unittest.TestCase):
    def check(self, book, path, expected):
        with self.subTest(path=path):
            self.assertEqual(facts(maker(book, path)), expected)

    def test_the_owner_makes_a_path(self):
        book = rules("c b : y", "*.o *.d : *.c")
        self.check(book, "b", (0, "", ("c", "b"), ("y",)))
        self.check(book, "x.d", (1, "x", ("x.o", "x.d"), ("x.c",)))

    def test_nothing_makes_a_path_without_an_owner(self):
        book = rules("a :", "*.o :")
        for path in ("b", "rules", "a.b"):
            self.check(book, path, None)

    def test_outputs_that_are_equal(self):
        book = rules("x* *x :")
        self.check(book, "xx", None)
        self.check(book, "xa", (0, "a", ("xa", "ax"), ()))

    def test_an_output_that_another_plain_rule_has(self):
        book = rules("*.o *.d :", "a.d :")
        self.check(book, "a.o", None)
        self.check(book, "a.d", (1, "", ("a.d",), ()))
        self.check(book, "b.o", (0, "b", ("b.o", "b.d"), ()))

    def test_an_output_that_an_earlier_pattern_rule_has(self):
        book = rules("a* :", "*.o *.d :")
        self.check(book, "a.d", (0, ".d", ("a.d",), ()))
        self.check(book, "b.o", (1, "b", ("b.o", "b.d"), ()))
        book = rules("*.d :", "*.o *.d :")
        self.check(book, "b.o", None)
        self.check(book, "b.d", (0, "b", ("b.d",), ()))

    def test_an_output_that_is_owned_with_another_stem(self):
        # The path `xxa` has the stem `xa`, whose other output `xay` has the stem `ay`.
        book = rules("x* *y :")
        self.check(book, "xxa", None)
        self.check(book, "xay", (0, "ay", ("xay", "ayy"), ()))
        self.check(book, "ayy", (0, "ay", ("xay", "ayy"), ()))
        self.check(book, "zy", (0, "z", ("xz", "zy"), ()))

    def test_an_output_that_is_a_recipe_file(self):
        book = book_of("rule *s *t :\nend")
        self.check(book, "rulet", None)
        self.check(book, "rules", None)
        self.check(book, "s", None)
        self.check(book, "as", (0, "a", ("as", "at"), ()))

    def test_the_makers_of_paths(self):
        book = rules("a b :", "c :", "*.o :")
        names = [job.name() for job in makers_of(book, ["x.o", "d", "b", "c", "a", "y.o", "x.o"])]
        self.assertEqual(names, ["x.o", "a", "c", "y.o"])
        self.assertEqual(makers_of(book, ()), [])


class TestRuleText(unittest.TestCase):
    def test_the_text_of_a_plain_rule(self):
        book = book_of('rule   a :  b\n put 1 "x"\nend')
        self.assertEqual(rule_text(book, make_job(book, 0, "")), 'stem \nrule a : b\n  put 1 "x"\nend')

    def test_the_text_of_a_pattern_rule(self):
        book = book_of('rule x :\nend\nsealed *.o : *.c\n put 1 read(stem + ".c")\nend')
        text = 'stem main\nsealed *.o : *.c\n  put 1 read(stem + ".c")\nend'
        self.assertEqual(rule_text(book, make_job(book, 1, "main")), text)

    def test_the_text_has_the_written_form_of_the_rule(self):
        book = book_of('rule *.o :\nif "a\\n"\nfail\nelse\nput 1 "\\"%"\nend\nend'.replace("%", "\\\\"))
        job = make_job(book, 0, "m")
        self.assertEqual(rule_text(book, job), "stem m\n" + format_rule(book.rules[0]))

    def test_the_key_is_that_of_the_text(self):
        book = book_of('rule x :\nend\nrule *.o :\n put 1 stem\nend')
        for job in (make_job(book, 0, ""), make_job(book, 1, "a"), make_job(book, 1, "b")):
            self.assertEqual(rule_key(book, job), content_key(rule_text(book, job)))
            self.assertEqual(key_text(rule_key(book, job)), rule_text(book, job))

    def test_keys_differ_by_rule_and_by_stem(self):
        book = book_of("rule a* :\nend\nsealed b* :\nend")
        keys = [rule_key(book, make_job(book, rule, stem)) for rule in (0, 1) for stem in ("x", "y")]
        self.assertEqual(len(set(keys)), 4)

    def test_a_rule_that_is_equal_in_another_place_has_the_same_key(self):
        first = book_of("rule a :\nend")
        second = book_of('set s "x"\nrule b :\nend\n  rule a  :  \n# nothing\nend')
        self.assertEqual(rule_key(first, make_job(first, 0, "")), rule_key(second, make_job(second, 1, "")))

    def test_a_rule_that_is_longer_than_a_content(self):
        book = Book()
        book.rules.append(Rule(("a",), (), False, (("put", 1, ("text", "\n" * 400)),)))
        text = rule_text(book, make_job(book, 0, ""))
        self.assertEqual(len(text), len('stem \nrule a :\n  put 1 ""\nend') + 800)
        self.assertEqual(key_text(rule_key(book, make_job(book, 0, ""))), text)


class TestPlainOutputs(unittest.TestCase):
    def test_plain_outputs(self):
        book = rules("c a/b :", "*.o x* :", "b :")
        self.assertEqual(plain_outputs(book), ["a/b", "b", "c"])
        plain_outputs(book).append("d")
        self.assertEqual(plain_outputs(book), ["a/b", "b", "c"])

    def test_none(self):
        self.assertEqual(plain_outputs(Book()), [])
        self.assertEqual(plain_outputs(rules("*.o :")), [])

    def test_the_order_is_that_of_the_codes(self):
        self.assertEqual(plain_outputs(rules("b_ b/a b. :", "b0 ba b :")), ["b", "b.", "b/a", "b0", "b_", "ba"])


class TestListing(unittest.TestCase):
    def check(self, tree, book, folder, pattern, lines):
        before = dict(tree.entries)
        with self.subTest(folder=folder, pattern=pattern):
            self.assertEqual(listing_text(tree, book, folder, pattern), "\n".join(lines))
            self.assertEqual(tree.entries, before)

    def test_files_of_persons(self):
        tree = tree_of({"b": "", "a": "", "d/c": "", "d/b": "", "d/e/a": "", "dd/a": ""})
        self.check(tree, Book(), "", "*", ["a", "b"])
        self.check(tree, Book(), "d", "*", ["d/b", "d/c"])
        self.check(tree, Book(), "d/e", "*", ["d/e/a"])
        self.check(tree, Book(), "e", "*", [])

    def test_the_recipe_files_are_files_of_persons(self):
        tree = tree_of({"rules": "", "a": ""})
        self.check(tree, parse_book(tree), "", "*", ["a", "rules"])

    def test_the_last_name_matches_the_pattern(self):
        tree = tree_of({"d/a.c": "", "d/b.c": "", "d/a.h": "", "d/c": ""})
        self.check(tree, Book(), "d", "*.c", ["d/a.c", "d/b.c"])
        self.check(tree, Book(), "d", "a.*", ["d/a.c", "d/a.h"])
        self.check(tree, Book(), "d", "a*.c", [])
        self.check(tree, Book(), "d", "d*", [])

    def test_the_order_is_that_of_the_codes(self):
        tree = tree_of({path: "" for path in ("ba", "b_", "b0", "b.", "b")})
        self.check(tree, Book(), "", "*", ["b", "b.", "b0", "b_", "ba"])

    def test_links_are_considered(self):
        tree = tree_of({"a": ""})
        tree.link("b", "nowhere")
        tree.link("c", "a")
        self.check(tree, Book(), "", "*", ["a", "b", "c"])

    def test_links_are_not_followed(self):
        tree = tree_of({"d/a": ""})
        tree.link("e", "d")
        self.check(tree, Book(), "e", "*", [])

    def test_files_of_builds_are_not_considered(self):
        tree = tree_of({"a": ""})
        tree.write("b", "", "build")
        self.check(tree, Book(), "", "*", ["a"])

    def test_outputs_of_plain_rules_are_considered(self):
        book = rules("d/b d/a :", "c :", "*.o :")
        self.check(Tree(), book, "d", "*", ["d/a", "d/b"])
        self.check(Tree(), book, "", "*", ["c"])

    def test_each_path_stands_once(self):
        book = rules("d/b d/a :")
        for by in ("person", "build"):
            tree = tree_of({"d/c": ""})
            tree.write("d/a", "", by)
            self.check(tree, book, "d", "*", ["d/a", "d/b", "d/c"])

    def test_what_a_pattern_rule_makes_is_not_considered(self):
        book = rules("*.o :", "d/a.o :")
        tree = tree_of({"a.o": "", "b.c": "", "d/a.o": "", "d/b.o": ""})
        tree.link("c.o", "b.c")
        tree.write("e.o", "", "build")
        self.check(tree, book, "", "*", ["b.c"])
        self.check(tree, book, "d", "*", ["d/a.o", "d/b.o"])

    def test_what_a_job_owns_but_does_not_make_is_considered(self):
        book = rules("x* *x :")
        tree = tree_of({"xx": "", "xa": "", "ax": ""})
        self.check(tree, book, "", "*", ["xx"])

    def paths_of(self, sizes):
        """Paths with names of these sizes, in ascending order."""
        return [chr(97 + at // 26) + chr(97 + at % 26) + "x" * (size - 2) for at, size in enumerate(sizes)]

    def test_a_listing_has_at_most_401_characters(self):
        # 30 names of 12 characters and their newlines are 390 characters.
        for last, length in ((9, 399), (10, 400), (11, 401), (12, 401)):
            paths = self.paths_of([12] * 30 + [last])
            tree = tree_of({path: "" for path in paths})
            text = listing_text(tree, Book(), "", "*")
            with self.subTest(last=last):
                self.assertEqual(len(text), length)
                self.assertEqual(text, "\n".join(paths)[:401])

    def test_a_long_listing_is_cut_in_the_middle_of_a_path(self):
        paths = ["d/" + path for path in self.paths_of([12] * 40)]
        tree = tree_of({path: "" for path in paths})
        self.assertEqual(listing_text(tree, Book(), "d", "*"), "\n".join(paths)[:401])


if __name__ == "__main__":
    unittest.main()
