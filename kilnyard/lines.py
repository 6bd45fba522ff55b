"""The lines of recipe files, and what is the same for all kinds of lines."""

from kilnyard.errors import InvalidRecipe
from kilnyard.expressions import BadToken, parse_expression
from kilnyard.scanning import scan_line


class Line:
    """A line of a recipe file with its tokens. Each token is told by its index in the line."""

    def __init__(self, path, number, text):
        self.path = path
        self.number = number
        self.tokens = scan_line(path, number, text)
        # The column at which a missing token is told.
        self.end_column = len(text.rstrip(" ")) + 1

    def refuse(self, at, reason):
        """Raises an error at a token."""
        raise InvalidRecipe(self.path, self.number, self.tokens[at][2], reason)

    def word(self, at):
        """The text of the word at an index where a token must stand, or "" for another token."""
        self._check_there(at)
        kind, text, _ = self.tokens[at]
        return text if kind == "word" else ""

    def string(self, at):
        """The text of the string that must stand at an index."""
        self._check_there(at)
        kind, text, _ = self.tokens[at]
        if kind != "string":
            self.refuse(at, "string expected")
        return text

    def expression(self, at, known):
        """The expression that begins at an index and must be the rest of the line."""
        try:
            expression, behind = parse_expression(self.tokens, at, known)
        except BadToken as bad:
            column = self.end_column if bad.column == 0 else bad.column
            raise InvalidRecipe(self.path, self.number, column, bad.reason) from None
        self.check_end(behind)
        return expression

    def check_end(self, count):
        """Checks that the line has no more than so many tokens."""
        if len(self.tokens) > count:
            self.refuse(count, "extra token")

    def _check_there(self, at):
        """Checks that the line has a token at an index."""
        if at >= len(self.tokens):
            raise InvalidRecipe(self.path, self.number, self.end_column, "missing token")


class RecipeFile:
    """A recipe file, which is read line by line."""

    def __init__(self, path, text):
        self.path = path
        self.rows = text.split("\n")
        self.number = 0

    def next_line(self):
        """The next line that is not skipped, or None at the end of the file."""
        # Only one line is split into tokens at a time: the errors of earlier lines come first.
        while self.number < len(self.rows):
            self.number += 1
            line = Line(self.path, self.number, self.rows[self.number - 1])
            if line.tokens != []:
                return line
        return None

    def next_line_of_rule(self):
        """The next line that is not skipped, inside of a rule."""
        line = self.next_line()
        if line is None:
            raise InvalidRecipe(self.path, len(self.rows) + 1, 1, "missing end")
        return line
