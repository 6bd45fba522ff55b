"""The bodies of rules."""

from kilnyard.scanning import is_identifier

MOST_STATEMENTS = 40
MOST_BLOCKS = 4

STATEMENTS = ("let", "put", "if", "each", "fail")
BLOCKS = ("if", "each")
NUMBERS = ("1", "2", "3")


def read_body(file, output_count):
    """The body of a rule with so many outputs, from the next line of a recipe file to its end."""
    body, _ = BodyReader(file, output_count).read_block(["stem"], 0, has_else=False)
    return body


class BodyReader:
    """Reads the body of one rule from a recipe file."""

    def __init__(self, file, output_count):
        self.file = file
        self.output_count = output_count
        self.statement_count = 0

    def read_block(self, known, depth, has_else):
        """The statements of a block, or of the rule, and the word of the line that ends it.

        `known` are the names that are known at its beginning. It is inside of `depth` blocks, itself included.
        `has_else` tells whether the word may be `else`.
        """
        names = list(known)
        statements = []
        while True:
            line = self.file.next_line_of_rule()
            word = line.word(0)
            if word == "end" or (word == "else" and has_else):
                line.check_end(1)
                return tuple(statements), word
            statement = self._read_statement(line, names, depth)
            statements.append(statement)
            if word == "let":
                names.append(statement[1])

    def _read_statement(self, line, known, depth):
        """The statement that begins with a line, with its blocks."""
        word = line.word(0)
        self._check_begin(line, word, depth)
        if word == "let":
            return "let", _read_name(line), line.expression(2, known)
        if word == "put":
            return "put", self._read_number(line), line.expression(2, known)
        if word == "if":
            return self._read_if(line, known, depth)
        if word == "each":
            return self._read_each(line, known, depth)
        line.check_end(1)
        return ("fail",)

    def _check_begin(self, line, word, depth):
        """Checks that a statement with this word may stand here, and counts it."""
        if word not in STATEMENTS:
            line.refuse(0, "unknown line")
        if self.statement_count == MOST_STATEMENTS:
            line.refuse(0, "too many statements")
        if word in BLOCKS and depth == MOST_BLOCKS:
            line.refuse(0, "too deep")
        self.statement_count += 1

    def _read_number(self, line):
        """The number of the output that a `put` gives."""
        number = line.word(1)
        if number not in NUMBERS[:self.output_count]:
            line.refuse(1, "invalid number")
        return int(number)

    def _read_if(self, line, known, depth):
        """The `if` that begins with a line."""
        test = line.expression(1, known)
        then_body, word = self.read_block(known, depth + 1, has_else=True)
        else_body = ()
        if word == "else":
            else_body, _ = self.read_block(known, depth + 1, has_else=False)
        return "if", test, then_body, else_body

    def _read_each(self, line, known, depth):
        """The `each` that begins with a line."""
        name = _read_name(line)
        if line.word(2) != "in":
            line.refuse(2, "in expected")
        lines = line.expression(3, known)
        body, _ = self.read_block(known + [name], depth + 1, has_else=False)
        return "each", name, lines, body


def _read_name(line):
    """The name of the variable to which a line assigns."""
    name = line.word(1)
    if not is_identifier(name) or name == "stem":
        line.refuse(1, "invalid name")
    return name
