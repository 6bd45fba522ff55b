"""Texts, contents and their keys."""

from kilnyard.errors import InvalidKey

CONTENT_LENGTH = 400

NEWLINE = 10
SPACE = 32
PERCENT = 37
TILDE = 126

# The characters of a text in the order of their codes, before and behind the percent sign.
SIGNS_BEFORE = " !\"#$"
SIGNS_BEHIND = "&'()*+,-./0123456789:;<=>?@ABCDEFGHIJKLMNOPQRSTUVWXYZ[\\]^_`abcdefghijklmnopqrstuvwxyz{|}~"

# A digit to the base 128 is as long as this many digits to the base 2.
DIGIT_BITS = 7


def is_text(value):
    """True if the string is a text."""
    return all([_is_code(ord(sign)) for sign in value])


def is_content(value):
    """True if the string is a text that a file may have."""
    return len(value) <= CONTENT_LENGTH and is_text(value)


def content_key(text):
    """The key of a text: its digits to the base 128 are 1 and the codes of its characters."""
    # Digits to the base 2 are read in time that grows with their number, not with its square.
    return int("1" + "".join([f"{ord(sign):07b}" for sign in text]), 2)


def key_text(key):
    """The text that has this key."""
    codes = _codes(key)
    if codes is None or not all([_is_code(code) for code in codes]):
        raise InvalidKey(key)
    return "".join([_sign(code) for code in codes])


def _is_code(code):
    """True if the character with this code may stand in a text."""
    return code == NEWLINE or (SPACE <= code <= TILDE and code != PERCENT)


def _codes(key):
    """The digits to the base 128 behind the leading 1, or None if the first digit is not 1."""
    if key < 1:
        return None
    bits = f"{key:b}"
    # Only a leading digit 1 adds a single bit to the full digits behind it.
    if len(bits) % DIGIT_BITS != 1:
        return None
    return [int(bits[at:at + DIGIT_BITS], 2) for at in range(1, len(bits), DIGIT_BITS)]


def _sign(code):
    """The character of a text that has this code."""
    if code == NEWLINE:
        return "\n"
    if code < PERCENT:
        return SIGNS_BEFORE[code - SPACE]
    return SIGNS_BEHIND[code - PERCENT - 1]
