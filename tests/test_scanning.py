"""Points 31, 32 and 34: lines that are skipped, tokens and their errors, identifiers."""

import itertools
import re
import unittest

from kilnyard.errors import BuildError, InvalidRecipe
from kilnyard.scanning import is_identifier, scan_line

# Spaces, and the written form of a token behind them.
TOKEN = re.compile(r' *([(),+]|"(?:[^"\\]|\\[n"\\])*"|[^ "(),+]+)')


def scan(line):
    return scan_line("rules", 1, line)


class TestTokens(unittest.TestCase):
    def test_example_of_the_interface(self):
        self.assertEqual(scan_line("rules", 1, 'put 1 has("a")'), [
            ("word", "put", 1), ("word", "1", 5), ("word", "has", 7), ("sign", "(", 10), ("string", "a", 11),
            ("sign", ")", 14)])

    def test_the_answer_is_a_new_list_of_tuples(self):
        for line in ("a b", 'a "b"', "", "# a"):
            found = scan(line)
            self.assertIs(type(found), list)
            self.assertEqual([type(token) for token in found], [tuple] * len(found))
            before = list(found)
            found.append("x")
            self.assertEqual(scan(line), before)

    def test_each_sign_alone_and_side_by_side(self):
        for sign in "(),+":
            self.assertEqual(scan(sign), [("sign", sign, 1)])
            self.assertEqual(scan("  " + sign + " "), [("sign", sign, 3)])
        self.assertEqual(scan("(),+ ++"), [("sign", "(", 1), ("sign", ")", 2), ("sign", ",", 3), ("sign", "+", 4),
                                           ("sign", "+", 6), ("sign", "+", 7)])

    def test_words(self):
        self.assertEqual(scan("a"), [("word", "a", 1)])
        self.assertEqual(scan("ab  c"), [("word", "ab", 1), ("word", "c", 5)])
        self.assertEqual(scan(" a.b/c : *.o "), [("word", "a.b/c", 2), ("word", ":", 8), ("word", "*.o", 10)])
        self.assertEqual(scan("a:b a:"), [("word", "a:b", 1), ("word", "a:", 5)])

    def test_each_other_character_belongs_to_a_word(self):
        for code in range(33, 127):
            sign = chr(code)
            if sign in '"(),+':
                continue
            self.assertEqual(scan("a" + sign + "b c"), [("word", "a" + sign + "b", 1), ("word", "c", 5)])
            if sign != "#":
                self.assertEqual(scan(sign), [("word", sign, 1)])

    def test_a_word_is_as_long_as_possible(self):
        self.assertEqual(scan("x" * 300 + " y"), [("word", "x" * 300, 1), ("word", "y", 302)])

    def test_words_next_to_signs_and_strings(self):
        self.assertEqual(scan('a"b"c'), [("word", "a", 1), ("string", "b", 2), ("word", "c", 5)])
        self.assertEqual(scan("a(b,c)+d"), [
            ("word", "a", 1), ("sign", "(", 2), ("word", "b", 3), ("sign", ",", 4), ("word", "c", 5),
            ("sign", ")", 6), ("sign", "+", 7), ("word", "d", 8)])
        self.assertEqual(scan('"a""b"'), [("string", "a", 1), ("string", "b", 4)])
        self.assertEqual(scan('("a")'), [("sign", "(", 1), ("string", "a", 2), ("sign", ")", 5)])

    def test_strings(self):
        self.assertEqual(scan('""'), [("string", "", 1)])
        self.assertEqual(scan('  "a b"  '), [("string", "a b", 3)])
        self.assertEqual(scan('"# a(),+ x"'), [("string", "# a(),+ x", 1)])
        self.assertEqual(scan('"' + "y" * 398 + '"'), [("string", "y" * 398, 1)])

    def test_each_escape(self):
        self.assertEqual(scan(r'"\n"'), [("string", "\n", 1)])
        self.assertEqual(scan(r'"\""'), [("string", '"', 1)])
        self.assertEqual(scan(r'"\\"'), [("string", "\\", 1)])
        self.assertEqual(scan(r'a "x\ny\"z\\" b'), [("word", "a", 1), ("string", 'x\ny"z\\', 3), ("word", "b", 15)])

    def test_escapes_side_by_side(self):
        self.assertEqual(scan(r'"\\n"'), [("string", "\\n", 1)])
        self.assertEqual(scan(r'"\\\n"'), [("string", "\\\n", 1)])
        self.assertEqual(scan(r'"\\\\"'), [("string", "\\\\", 1)])
        self.assertEqual(scan(r'"\\" "\""'), [("string", "\\", 1), ("string", '"', 6)])

    def test_a_backslash_outside_of_a_string_is_part_of_a_word(self):
        self.assertEqual(scan(r'a\n \ "b"'), [("word", "a\\n", 1), ("word", "\\", 5), ("string", "b", 7)])

    def test_all_short_lines(self):
        for size in range(7):
            for signs in itertools.product('a +"\\', repeat=size):
                line = "".join(signs)
                if TOKEN.sub("", line).strip(" ") == "":
                    self.check_against(line, [match.group(1) for match in TOKEN.finditer(line)])
                else:
                    with self.assertRaises(InvalidRecipe, msg=line):
                        scan(line)

    def check_against(self, line, expected):
        """The tokens of the line are written like this."""
        found = scan(line)
        self.assertEqual(len(found), len(expected), line)
        for (kind, text, column), written in zip(found, expected):
            self.assertEqual(line[column - 1:column - 1 + len(written)], written)
            self.assertEqual(kind, {'"': "string", "+": "sign"}.get(written[0], "word"))
            if kind != "string":
                self.assertEqual(text, written)


class TestSkippedLines(unittest.TestCase):
    def test_empty_lines_and_spaces(self):
        for line in ("", " ", "   ", " " * 400):
            self.assertEqual(scan(line), [])

    def test_comments(self):
        for line in ("#", "# a", "   # a b", '#"', '  #"\\x', "#a" * 100, "##"):
            self.assertEqual(scan(line), [])

    def test_a_comment_sign_inside_of_a_line(self):
        self.assertEqual(scan("a # b"), [("word", "a", 1), ("word", "#", 3), ("word", "b", 5)])
        self.assertEqual(scan("a#b"), [("word", "a#b", 1)])
        for code in range(97, 123):
            self.assertEqual(scan(chr(code) + "#"), [("word", chr(code) + "#", 1)])
        self.assertEqual(scan("+#"), [("sign", "+", 1), ("word", "#", 2)])
        self.assertEqual(scan('"#"'), [("string", "#", 1)])
        self.assertEqual(scan('a "#b"'), [("word", "a", 1), ("string", "#b", 3)])


class TestErrors(unittest.TestCase):
    def check(self, marked, reason):
        """The line without its first @ raises this error at the place of the @."""
        line = marked.replace("@", "", 1)
        for path, number in (("rules", 1), ("a/b.c", 27)):
            with self.subTest(line=line):
                with self.assertRaises(BuildError) as caught:
                    scan_line(path, number, line)
                error = caught.exception
                self.assertIs(error.__class__, InvalidRecipe)
                self.assertEqual((error.path, error.line, error.column, error.reason),
                                 (path, number, marked.index("@") + 1, reason))

    def test_unterminated_strings(self):
        for line in ('@"', '@"a', 'a @"b c', '  @"', '"a" @"b', '"a"@"', 'a@"', '(@"', '@"a # b', '@"a   '):
            self.check(line, "unterminated string")

    def test_a_string_with_an_escaped_quote_at_its_end(self):
        self.check(r'@"a\"', "unterminated string")
        self.check(r'"b" @"\\\"', "unterminated string")

    def test_a_backslash_at_the_end_of_the_line(self):
        self.check('@"\\', "unterminated string")
        self.check('a @"b\\', "unterminated string")
        self.check('a @"b\\\\\\', "unterminated string")
        self.check('"a" @"\\n\\', "unterminated string")

    def test_wrong_escapes(self):
        for code in range(32, 127):
            sign = chr(code)
            if sign not in 'n"\\@':
                self.check('put "a@\\' + sign + 'b" c', "invalid escape")
        self.check('"@\\@"', "invalid escape")
        self.check('"a" "@\\t"', "invalid escape")
        self.check(r'"\\\n\"@\x"', "invalid escape")

    def test_a_wrong_escape_comes_before_the_missing_end_of_its_string(self):
        self.check('"a@\\b', "invalid escape")
        self.check('"@\\ ', "invalid escape")
        self.check('"a@\\bc\\', "invalid escape")

    def test_the_error_that_is_noticed_first(self):
        self.check('"a@\\b" "c', "invalid escape")
        self.check('"@\\x" "\\y"', "invalid escape")
        self.check('a "b "c@"', "unterminated string")

    def test_a_backslash_does_not_hide_the_end_of_a_string_before(self):
        self.check(r'"\\"@"', "unterminated string")


class TestIsIdentifier(unittest.TestCase):
    def check(self, values, answer):
        for value in values:
            with self.subTest(value=value):
                self.assertIs(is_identifier(value), answer)

    def test_lengths(self):
        self.check(["a", "ab", "a" * 11, "a" * 12], True)
        self.check(["", "a" * 13, "a" * 100], False)

    def test_the_first_character(self):
        for code in range(300):
            self.check([chr(code), chr(code) + "b"], "a" <= chr(code) <= "z")

    def test_the_other_characters(self):
        allowed = "abcdefghijklmnopqrstuvwxyz0123456789_"
        for code in range(300):
            self.check(["a" + chr(code), "a" + chr(code) + "b"], chr(code) in allowed)

    def test_ordinary_ones(self):
        self.check(["stem", "x1", "a_b", "let", "read", "in", "a_", "z9"], True)
        self.check(["Stem", "1x", "_a", "a.b", "a/b", "a b", "a*", " a", "a ", "a\n", "\n", "\xe4", "a\u0661"], False)


if __name__ == "__main__":
    unittest.main()
