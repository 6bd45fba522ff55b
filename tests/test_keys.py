"""Points 10 and 11: texts, contents and keys."""

import unittest

from kilnyard.errors import InvalidKey
from kilnyard.keys import content_key, is_content, is_text, key_text

SIGNS = "\n" + "".join([chr(code) for code in range(32, 127) if chr(code) != "%"])


def key_of_digits(digits):
    """The integer with these digits to the base 128, reckoned as point 11 says it."""
    key = 0
    for digit in digits:
        key = key * 128 + digit
    return key


class TestTexts(unittest.TestCase):
    def test_each_character(self):
        for code in range(0, 400):
            with self.subTest(code=code):
                self.assertIs(is_text(chr(code)), chr(code) in SIGNS)
                self.assertIs(is_content(chr(code)), chr(code) in SIGNS)

    def test_the_ends_of_the_range_and_their_neighbours(self):
        self.assertIs(is_text(" "), True)
        self.assertIs(is_text("~"), True)
        self.assertIs(is_text("\x1f"), False)
        self.assertIs(is_text("\x7f"), False)

    def test_percent_sign_and_its_neighbours(self):
        self.assertIs(is_text("$"), True)
        self.assertIs(is_text("%"), False)
        self.assertIs(is_text("&"), True)

    def test_newline_is_the_only_control_character(self):
        self.assertIs(is_text("a\nb\n"), True)
        for sign in ("\t", "\r", "\0", "\v", "\f"):
            self.assertIs(is_text("a" + sign), False)

    def test_characters_beyond_ascii(self):
        for sign in ("\x80", "\xe4", "\u2028", "\u20ac", "\U0001f600", "\uff21", "\u0661"):
            self.assertIs(is_text("abc" + sign), False)
            self.assertIs(is_content(sign + "abc"), False)

    def test_one_wrong_character_anywhere(self):
        for at in range(5):
            value = "a" * at + "%" + "a" * (4 - at)
            self.assertIs(is_text(value), False)
            self.assertIs(is_content(value), False)

    def test_empty_string(self):
        self.assertIs(is_text(""), True)
        self.assertIs(is_content(""), True)

    def test_length_of_a_content(self):
        for length, answer in ((0, True), (1, True), (399, True), (400, True), (401, False), (5000, False)):
            with self.subTest(length=length):
                self.assertIs(is_content("a" * length), answer)
                self.assertIs(is_content("\n" * length), answer)
                self.assertIs(is_text("a" * length), True)

    def test_a_long_string_that_is_no_text(self):
        self.assertIs(is_text("a" * 400 + "%"), False)
        self.assertIs(is_content("a" * 399 + "%"), False)


class TestKeys(unittest.TestCase):
    def check_raises(self, key):
        with self.assertRaises(InvalidKey) as caught:
            key_text(key)
        self.assertEqual(caught.exception.key, key)

    def test_example_of_the_interface(self):
        self.assertEqual(content_key("A"), 193)
        self.assertEqual(key_text(193), "A")

    def test_empty_text(self):
        self.assertEqual(content_key(""), 1)
        self.assertEqual(key_text(1), "")

    def test_first_character_is_the_first_digit(self):
        self.assertEqual(content_key("ab"), (128 + 97) * 128 + 98)
        self.assertEqual(content_key("ba"), (128 + 98) * 128 + 97)
        self.assertEqual(key_text((128 + 97) * 128 + 98), "ab")

    def test_leading_and_trailing_characters_count(self):
        for text in ("\n", "\n\n", " a", "a ", "\na\n", "   "):
            self.assertEqual(content_key(text), key_of_digits([1] + [ord(sign) for sign in text]))
            self.assertEqual(key_text(content_key(text)), text)

    def test_each_character_there_and_back(self):
        for sign in SIGNS:
            with self.subTest(sign=sign):
                self.assertEqual(content_key(sign), 128 + ord(sign))
                self.assertEqual(key_text(128 + ord(sign)), sign)

    def test_long_texts_there_and_back(self):
        for length in (2, 7, 64, 399, 400, 401, 1000, 5000):
            text = (SIGNS * (length // len(SIGNS) + 1))[:length]
            key = content_key(text)
            with self.subTest(length=length):
                self.assertTrue(key == key_of_digits([1] + [ord(sign) for sign in text]))
                self.assertEqual(key_text(key), text)

    def test_different_texts_have_different_keys(self):
        signs = "\n aA~"
        texts = [""] + list(signs) + [a + b for a in signs for b in signs]
        texts += [a + b + c for a in signs for b in signs for c in signs]
        self.assertEqual(len({content_key(text) for text in texts}), len(texts))

    def test_zero_and_negative_integers(self):
        for key in (0, -1, -193, -128, -(128 ** 3), -content_key("abc")):
            self.check_raises(key)

    def test_another_leading_digit(self):
        for digit in range(2, 128):
            self.check_raises(digit)
            self.check_raises(key_of_digits([digit, 97]))
            self.check_raises(key_of_digits([digit, 97, 98]))

    def test_a_digit_that_is_the_code_of_no_character(self):
        for code in range(128):
            if chr(code) not in SIGNS:
                with self.subTest(code=code):
                    self.check_raises(key_of_digits([1, code]))
                    self.check_raises(key_of_digits([1, code, 97]))
                    self.check_raises(key_of_digits([1, 97, code]))
                    self.check_raises(key_of_digits([1, 97, code, 98]))

    def test_small_integers_by_the_definition(self):
        texts = {content_key(text): text for text in [""] + list(SIGNS)}
        for key in range(-300, 300):
            if key in texts:
                self.assertEqual(key_text(key), texts[key])
            else:
                self.check_raises(key)

    def test_a_very_large_integer_that_is_no_key(self):
        for key in (2 * 128 ** 3000, 128 ** 3000, -(128 ** 3000)):
            with self.assertRaises(InvalidKey) as caught:
                key_text(key)
            self.assertTrue(caught.exception.key == key)


if __name__ == "__main__":
    unittest.main()
