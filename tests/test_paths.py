"""Points 12 to 16: paths, patterns, stems, fillings and directories."""

import itertools
import re
import unittest

from kilnyard.errors import InvalidPath
from kilnyard.paths import directory, fill, is_name_pattern, is_path, is_pattern, parents, stem_of

NAME = r"[a-z0-9_][a-z0-9_.]{0,11}"
PATH = re.compile(NAME + "(/" + NAME + r"){0,3}\Z")


def short_strings(signs, most):
    """All strings of at most so many of these characters."""
    for length in range(most + 1):
        for parts in itertools.product(signs, repeat=length):
            yield "".join(parts)


class TestIsPath(unittest.TestCase):
    def check(self, values, answer):
        for value in values:
            with self.subTest(value=value):
                self.assertIs(is_path(value), answer)

    def test_length_of_a_name(self):
        self.check(["a", "a" * 12, "a/" + "b" * 12 + "/c"], True)
        self.check(["", "a" * 13, "a/" + "b" * 13, "a" * 13 + "/b"], False)

    def test_number_of_names(self):
        self.check(["a", "a/b", "a/b/c", "a/b/c/d", "/".join(["a" * 12] * 4)], True)
        self.check(["a/b/c/d/e", "a/b/c/d/e/f"], False)

    def test_each_character(self):
        allowed = "abcdefghijklmnopqrstuvwxyz0123456789_."
        for sign in [chr(code) for code in range(300) if chr(code) != "/"]:
            self.check(["x" + sign, "x" + sign + "y", "x/y" + sign], sign in allowed)
            self.check([sign, sign + "x", "x/" + sign], sign in allowed and sign != ".")

    def test_other_alphabets(self):
        self.check(["A", "\xe4", "\u0430", "\u0661", "\uff41", "a\u0301", "a b", "a\n", "\na", "a\t", "a-b", "a*",
                    "a\\b", "\xb2"], False)

    def test_dots(self):
        self.check(["a.", "a.b", "a..b", "a/b.c", "a./b", "0.1"], True)
        self.check([".", "..", ".a", "a/.b", "a/..", "./a", "../a", "a/./b"], False)

    def test_slashes(self):
        self.check(["/", "//", "/a", "a/", "a//b", "/a/b", "a/b/", "a/b/c/d/", "/a/b/c/d"], False)

    def test_all_short_strings(self):
        for value in short_strings("a.*/_", 5):
            self.assertIs(is_path(value), PATH.match(value) is not None, value)


class TestIsPattern(unittest.TestCase):
    def check(self, values, answer):
        for value in values:
            with self.subTest(value=value):
                self.assertIs(is_pattern(value), answer)

    def test_number_of_stars(self):
        self.check(["*", "a*", "*a", "a*b", "a/*", "*/a", "a/b*c/d"], True)
        self.check(["a", "a/b", "", "**", "a**", "*a*", "*/*", "a*/b*", "***"], False)

    def test_a_star_may_begin_a_name(self):
        self.check(["*.c", "src/*.c", "*/a", "a/*b/c", "*.", "*..a"], True)

    def test_length_of_a_name_with_its_star(self):
        self.check(["*" + "a" * 11, "a" * 11 + "*", "a" * 5 + "*" + "b" * 6, "x/" + "a" * 11 + "*"], True)
        self.check(["*" + "a" * 12, "a" * 12 + "*", "a" * 6 + "*" + "b" * 6, "x/" + "a" * 12 + "*"], False)
        self.check(["a" * 12 + "/*"], True)
        self.check(["a" * 13 + "/*"], False)

    def test_a_name_does_not_begin_with_a_dot(self):
        self.check([".*", ".a*", "a/.*", "a/.b*c", ".a/*", "*/.a", "*/."], False)
        self.check(["a.*", "a*.", "a/b.*"], True)

    def test_written_like_a_path(self):
        self.check(["*/b/c/d", "a/b/c/*"], True)
        self.check(["a/b/c/d/*", "*/b/c/d/e", "/*", "*/", "a//*", "*//a", "A*", "* ", "a*\n", "a-*", "%*"], False)

    def test_all_short_strings(self):
        for value in short_strings("a.*/", 5):
            expected = value.count("*") == 1 and PATH.match(value.replace("*", "x")) is not None
            self.assertIs(is_pattern(value), expected, value)


class TestNamePatterns(unittest.TestCase):
    def test_patterns_of_one_name(self):
        for value in ("*", "*.c", "a*", "a*b", "*" + "a" * 11):
            self.assertIs(is_name_pattern(value), True, value)

    def test_patterns_of_several_names(self):
        for value in ("d/*", "*/a", "a/b*/c"):
            self.assertIs(is_name_pattern(value), False, value)

    def test_what_is_no_pattern(self):
        for value in ("", "a", "**", ".*", "A*", "*" + "a" * 12, "/", "*/"):
            self.assertIs(is_name_pattern(value), False, value)


class TestStemOf(unittest.TestCase):
    def check(self, pattern, path, stem):
        with self.subTest(pattern=pattern, path=path):
            self.assertEqual(stem_of(pattern, path), stem)

    def test_example_of_the_interface(self):
        self.check("src/*.c", "src/main.c", "main")

    def test_stems_of_one_and_of_many_characters(self):
        self.check("*", "a", "a")
        self.check("*", "abcdefghijkl", "abcdefghijkl")
        self.check("a*", "ab", "b")
        self.check("*b", "ab", "a")
        self.check("a*c", "abc", "b")
        self.check("a*c", "abbbbc", "bbbb")
        self.check("*.o", "x.y.o", "x.y")
        self.check("a*", "a.b", ".b")

    def test_what_stands_around_the_star_may_occur_in_the_stem(self):
        self.check("a*a", "aaa", "a")
        self.check("a*a", "aaaaa", "aaa")
        self.check("ab*ab", "abababab", "abab")

    def test_an_empty_stem(self):
        self.check("a*", "a", None)
        self.check("*a", "a", None)
        self.check("a*b", "ab", None)
        self.check("src/*.c", "src/.c", None)

    def test_a_path_shorter_than_what_stands_around_the_star(self):
        self.check("aa*aa", "aaa", None)
        self.check("aba*aba", "aba", None)
        self.check("aba*aba", "ababa", None)
        self.check("abc*", "ab", None)
        self.check("*abc", "bc", None)

    def test_a_stem_with_a_slash(self):
        self.check("*", "a/b", None)
        self.check("a*", "ab/c", None)
        self.check("a/*", "a/b/c", None)
        self.check("*/c", "a/b/c", None)
        self.check("a*d", "a/d", None)
        self.check("a*d", "ab/cd", None)

    def test_a_path_that_does_not_match(self):
        self.check("src/*.c", "src/main.h", None)
        self.check("src/*.c", "lib/main.c", None)
        self.check("src/*.c", "main.c", None)
        self.check("a*", "ba", None)
        self.check("*a", "ab", None)

    def test_a_star_in_each_name(self):
        self.check("*/b/c/d", "xy/b/c/d", "xy")
        self.check("a/*/c", "a/xy/c", "xy")
        self.check("a/b/c/*", "a/b/c/xy", "xy")
        self.check("a/l*r/c", "a/lxyr/c", "xy")

    def test_all_short_paths_by_the_definition(self):
        paths = [value for value in short_strings("ab/", 4) if is_path(value)]
        stems = [value for value in short_strings("ab", 4) if value != ""]
        for pattern in [value for value in short_strings("ab*/", 4) if is_pattern(value)]:
            results = {pattern.replace("*", stem): stem for stem in stems}
            for path in paths:
                self.assertEqual(stem_of(pattern, path), results.get(path), (pattern, path))


class TestFill(unittest.TestCase):
    def check_raises(self, pattern, stem, result):
        with self.subTest(pattern=pattern, stem=stem):
            with self.assertRaises(InvalidPath) as caught:
                fill(pattern, stem)
            self.assertEqual(caught.exception.path, result)

    def test_the_star_is_replaced(self):
        self.assertEqual(fill("src/*.c", "main"), "src/main.c")
        self.assertEqual(fill("*", "a"), "a")
        self.assertEqual(fill("a*", "b"), "ab")
        self.assertEqual(fill("*/b", "a"), "a/b")

    def test_a_path_stays_as_it_is(self):
        for path in ("a", "a/b", "a/b/c/d", "a" * 12):
            for stem in ("", "x", "no % path", "/", "*", ".", "x" * 100):
                self.assertEqual(fill(path, stem), path)

    def test_only_the_result_is_checked(self):
        self.assertEqual(fill("a*", ""), "a")
        self.assertEqual(fill("a*c", ""), "ac")
        self.assertEqual(fill("a*d", "/b/c/"), "a/b/c/d")
        self.assertEqual(fill("*", "a/b/c/d"), "a/b/c/d")
        self.assertEqual(fill("a*", ".b"), "a.b")

    def test_longest_results(self):
        self.assertEqual(fill("a*", "b" * 11), "a" + "b" * 11)
        self.check_raises("a*", "b" * 12, "a" + "b" * 12)

    def test_results_that_are_not_paths(self):
        self.check_raises("*", "", "")
        self.check_raises("a/*", "", "a/")
        self.check_raises("*/a", "", "/a")
        self.check_raises("*.c", "", ".c")
        self.check_raises("*", ".a", ".a")
        self.check_raises("a/*", ".", "a/.")
        self.check_raises("a*", "B", "aB")
        self.check_raises("a*", "%", "a%")
        self.check_raises("a*", " ", "a ")
        self.check_raises("a*", "\n", "a\n")
        self.check_raises("a*", "//b", "a//b")
        self.check_raises("a/b/c/*", "d/e", "a/b/c/d/e")

    def test_a_star_in_the_stem_is_no_star_of_the_pattern(self):
        self.check_raises("a*b", "*", "a*b")
        self.check_raises("a*b", "x*y", "ax*yb")

    def test_filling_and_stem_agree(self):
        for pattern in ("*", "a*", "*a", "x/*.c", "*/y", "a/b*c/d"):
            for stem in ("a", "ab", "a.b", "_0"):
                self.assertEqual(stem_of(pattern, fill(pattern, stem)), stem)


class TestDirectories(unittest.TestCase):
    def test_directory(self):
        self.assertEqual(directory("a"), "")
        self.assertEqual(directory("a/b"), "a")
        self.assertEqual(directory("a/b/c"), "a/b")
        self.assertEqual(directory("a/b/c/d"), "a/b/c")
        self.assertEqual(directory("ab.c/de.f"), "ab.c")

    def test_parents(self):
        self.assertEqual(parents("a"), [])
        self.assertEqual(parents("a/b"), ["a"])
        self.assertEqual(parents("a/b/c"), ["a/b", "a"])
        self.assertEqual(parents("a/b/c/d"), ["a/b/c", "a/b", "a"])
        self.assertEqual(parents("ab.c/ab.c/x"), ["ab.c/ab.c", "ab.c"])

    def test_a_returned_list_is_new(self):
        found = parents("a/b/c")
        found.append("x")
        self.assertEqual(parents("a/b/c"), ["a/b", "a"])


if __name__ == "__main__":
    unittest.main()
