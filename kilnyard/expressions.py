"""The expressions of statements."""

from kilnyard.errors import BuildError
from kilnyard.scanning import is_identifier

# How many calls may stand inside of one another.
MOST_CALLS = 6

# The functions and the numbers of their arguments.
FUNCTIONS = {
    "read": 1, "has": 1, "list": 2, "setting": 1, "same": 2, "not": 1, "upper": 1,
    "count": 1, "sort": 1, "first": 1, "rest": 1, "join": 2, "swap": 3,
}


class BadToken(BuildError):
    """A token of an expression is wrong; the column is 0 if a token is missing."""

    def __init__(self, column, reason):
        BuildError.__init__(self, f"column {column}: {reason}")
        self.column = column
        self.reason = reason


def parse_expression(tokens, start, known):
    """The expression that begins at an index, and the index behind it."""
    return _expression(tokens, start, known, 0)


def _expression(tokens, start, known, depth):
    """The expression that begins at an index inside of so many calls, and the index behind it."""
    term, at = _term(tokens, start, known, depth)
    terms = [term]
    while _sign(tokens, at) == "+":
        term, at = _term(tokens, at + 1, known, depth)
        terms.append(term)
    if len(terms) == 1:
        return term, at
    return ("join", tuple(terms)), at


def _term(tokens, at, known, depth):
    """The term that begins at an index, and the index behind it."""
    _check_there(tokens, at)
    kind, text, column = tokens[at]
    if kind == "string":
        return ("text", text), at + 1
    if kind == "sign":
        raise BadToken(column, "unexpected token")
    if _sign(tokens, at + 1) == "(":
        return _call(tokens, at, known, depth)
    if not is_identifier(text):
        raise BadToken(column, "invalid name")
    if text not in known:
        raise BadToken(column, "unknown name")
    return ("name", text), at + 1


def _call(tokens, at, known, depth):
    """The call whose word is at an index, and the index behind it."""
    _, word, column = tokens[at]
    if depth >= MOST_CALLS:
        raise BadToken(column, "too deep")
    if word not in FUNCTIONS:
        raise BadToken(column, "unknown function")
    arguments = []
    behind = at + 1
    while len(arguments) < FUNCTIONS[word]:
        if _sign(tokens, behind + 1) == ")":
            raise BadToken(tokens[behind + 1][2], "missing argument")
        argument, behind = _expression(tokens, behind + 1, known, depth + 1)
        arguments.append(argument)
        _check_behind(tokens, behind, FUNCTIONS[word] - len(arguments))
    return ("call", word, tuple(arguments)), behind + 1


def _check_behind(tokens, at, wanted):
    """Checks the token behind an argument, where so many more arguments have to follow."""
    _check_there(tokens, at)
    sign = _sign(tokens, at)
    column = tokens[at][2]
    if sign != "," and sign != ")":
        raise BadToken(column, "unexpected token")
    if sign == ")" and wanted > 0:
        raise BadToken(column, "missing argument")
    if sign == "," and wanted == 0:
        raise BadToken(column, "extra argument")


def _check_there(tokens, at):
    """Checks that there is a token at an index."""
    if at >= len(tokens):
        raise BadToken(0, "missing token")


def _sign(tokens, at):
    """The sign at an index, or the empty string if there is none."""
    if at < len(tokens) and tokens[at][0] == "sign":
        return tokens[at][1]
    return ""
