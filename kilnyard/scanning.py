"""The tokens of a line of a recipe file."""

from kilnyard.errors import InvalidRecipe

IDENTIFIER_LENGTH = 12
LETTERS = "abcdefghijklmnopqrstuvwxyz"
IDENTIFIER_SIGNS = "abcdefghijklmnopqrstuvwxyz0123456789_"

SIGNS = "(),+"
QUOTE = '"'
BACKSLASH = "\\"
WORD_ENDS = ' "(),+'

# What a backslash and each of these characters stand for in a string.
ESCAPES = {"n": "\n", '"': '"', "\\": "\\"}


def scan_line(path, number, line):
    """The tokens of a line, each as (kind, text, column)."""
    if line.lstrip(" ").startswith("#"):
        return []
    tokens = []
    at = _skip_spaces(line, 0)
    while at < len(line):
        kind, text, behind = _token(path, number, line, at)
        tokens.append((kind, text, at + 1))
        at = _skip_spaces(line, behind)
    return tokens


def is_identifier(value):
    """True if the string is an identifier."""
    if not 1 <= len(value) <= IDENTIFIER_LENGTH or value[0] not in LETTERS:
        return False
    return all([sign in IDENTIFIER_SIGNS for sign in value])


def _skip_spaces(line, start):
    """The index of the first character from an index on that is not a space."""
    at = start
    while at < len(line) and line[at] == " ":
        at += 1
    return at


def _token(path, number, line, start):
    """The kind and the text of the token that begins at an index, and the index behind it."""
    if line[start] == QUOTE:
        text, behind = _string(path, number, line, start)
        return "string", text, behind
    if line[start] in SIGNS:
        return "sign", line[start], start + 1
    behind = start
    while behind < len(line) and line[behind] not in WORD_ENDS:
        behind += 1
    return "word", line[start:behind], behind


def _string(path, number, line, start):
    """The text of the string whose first quote is at an index, and the index behind it."""
    parts = []
    at = start + 1
    while at < len(line) and line[at] != QUOTE:
        part, at = _string_part(path, number, line, at)
        parts.append(part)
    if at >= len(line):
        raise InvalidRecipe(path, number, start + 1, "unterminated string")
    return "".join(parts), at + 1


def _string_part(path, number, line, at):
    """What the character or the escape at an index of a string stands for, and the index behind it."""
    if line[at] != BACKSLASH:
        return line[at], at + 1
    sign = line[at + 1:at + 2]
    # Behind a last backslash there is nothing to be wrong: there the string lacks its end.
    if sign != "" and sign not in ESCAPES:
        raise InvalidRecipe(path, number, at + 1, "invalid escape")
    return ESCAPES.get(sign, ""), at + 2
