"""Points 53 and 54: the lines of texts, and the functions that look at nothing."""

import unittest

from kilnyard.texts import apply_function, lines_of

LETTERS = "abcdefghijklmnopqrstuvwxyz"
OTHER_SIGNS = "".join([chr(code) for code in range(32, 127)
                       if chr(code) not in LETTERS and chr(code) != "%"]) + "\n"


class TestLines(unittest.TestCase):
    def check(self, text, lines):
        with self.subTest(text=text):
            self.assertEqual(lines_of(text), lines)

    def test_the_empty_text_has_no_lines(self):
        self.check("", [])

    def test_lines_are_the_parts_between_newlines(self):
        self.check("a", ["a"])
        self.check("a\nb", ["a", "b"])
        self.check("a b\n c ", ["a b", " c "])
        self.check("b\na\nb", ["b", "a", "b"])

    def test_a_newline_at_the_end_gives_an_empty_last_line(self):
        self.check("a\n", ["a", ""])
        self.check("\n", ["", ""])

    def test_empty_lines_count(self):
        self.check("\na", ["", "a"])
        self.check("a\n\nb", ["a", "", "b"])
        self.check("\n\n", ["", "", ""])

    def test_the_longest_texts(self):
        self.check("x" * 400, ["x" * 400])
        self.check("\n" * 400, [""] * 401)

    def test_the_list_is_new(self):
        for text in ("", "a", "a\nb"):
            lines_of(text).append("x")
            self.assertNotIn("x", lines_of(text))


class TestFunctions(unittest.TestCase):
    def check(self, name, *arguments_and_value):
        *arguments, value = arguments_and_value
        before = list(arguments)
        with self.subTest(name=name, arguments=arguments):
            self.assertEqual(apply_function(name, arguments), value)
            self.assertEqual(arguments, before)

    def test_same(self):
        self.check("same", "a", "a", "yes")
        self.check("same", "", "", "yes")
        self.check("same", "a\n", "a\n", "yes")
        self.check("same", "a", "b", "")
        self.check("same", "a", "A", "")
        self.check("same", "a", "a ", "")
        self.check("same", "a", "", "")
        self.check("same", "", "a", "")
        self.check("same", "x" * 400, "x" * 400, "yes")
        self.check("same", "x" * 400, "x" * 399 + "y", "")

    def test_not(self):
        self.check("not", "", "yes")
        self.check("not", "a", "")
        self.check("not", "yes", "")
        self.check("not", " ", "")
        self.check("not", "\n", "")
        self.check("not", "0", "")

    def test_upper(self):
        self.check("upper", "", "")
        self.check("upper", LETTERS, LETTERS.upper())
        self.check("upper", OTHER_SIGNS, OTHER_SIGNS)
        self.check("upper", "aB c1\nz", "AB C1\nZ")

    def test_count(self):
        self.check("count", "", "0")
        self.check("count", "a", "1")
        self.check("count", " ", "1")
        self.check("count", "a\nb", "2")
        self.check("count", "a\n", "2")
        self.check("count", "\n", "2")
        self.check("count", "\n" * 9, "10")
        self.check("count", "\n" * 400, "401")

    def test_sort(self):
        self.check("sort", "", "")
        self.check("sort", "a", "a")
        self.check("sort", "b\na", "a\nb")
        self.check("sort", "b\na\nb\na", "a\na\nb\nb")
        self.check("sort", "b\na\n", "\na\nb")
        self.check("sort", "\n", "\n")
        self.check("sort", "b\n\na", "\na\nb")

    def test_sort_goes_by_the_codes_of_characters(self):
        self.check("sort", "a\nB\n_\n1\n ~\n~", " ~\n1\nB\n_\na\n~")
        self.check("sort", "ab\na\na b\n10\n9", "10\n9\na\na b\nab")

    def test_first(self):
        self.check("first", "", "")
        self.check("first", "a b", "a b")
        self.check("first", "a\nb\nc", "a")
        self.check("first", "a\n", "a")
        self.check("first", "\na", "")
        self.check("first", "\n", "")

    def test_rest(self):
        self.check("rest", "", "")
        self.check("rest", "a b", "")
        self.check("rest", "a\nb\nc", "b\nc")
        self.check("rest", "a\n", "")
        self.check("rest", "\na", "a")
        self.check("rest", "\n", "")
        self.check("rest", "a\n\nb", "\nb")
        self.check("rest", "a\nb\n", "b\n")

    def test_join(self):
        self.check("join", "", ", ", "")
        self.check("join", "a", ", ", "a")
        self.check("join", "a\nb\nc", ", ", "a, b, c")
        self.check("join", "a\nb", "", "ab")
        self.check("join", "a\n", "-", "a-")
        self.check("join", "\n", "-", "-")
        self.check("join", "\na\n\n", "-", "-a--")
        self.check("join", "a\nb", "\n", "a\nb")
        self.check("join", "a\nb", "x\ny", "ax\nyb")

    def test_swap(self):
        self.check("swap", "banana", "an", "AN", "bANANa")
        self.check("swap", "banana", "x", "y", "banana")
        self.check("swap", "a.b.c", ".", "", "abc")
        self.check("swap", "a\nb\n", "\n", "; ", "a; b; ")
        self.check("swap", "", "a", "b", "")
        self.check("swap", "aAa", "a", "b", "bAb")

    def test_swap_searches_from_the_left(self):
        self.check("swap", "aaa", "aa", "b", "ba")
        self.check("swap", "aaaaa", "aa", "b", "bba")
        self.check("swap", "ababa", "aba", "c", "cba")

    def test_swap_does_not_search_what_was_replaced(self):
        self.check("swap", "aa", "a", "aa", "aaaa")
        self.check("swap", "aab", "ab", "b", "ab")
        self.check("swap", "abc", "ab", "a", "ac")

    def test_swap_of_the_empty_text(self):
        self.check("swap", "abc", "", "x", "abc")
        self.check("swap", "", "", "x", "")

    def test_values_are_not_cut(self):
        self.check("swap", "a" * 400, "a", "b" * 400, "b" * 160000)
        self.check("join", "\n" * 400, "x" * 400, "x" * 160000)


if __name__ == "__main__":
    unittest.main()
