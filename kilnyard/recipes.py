"""Rules, books, and the reading of a book from a tree."""

from kilnyard.bodies import read_body
from kilnyard.errors import InvalidRecipe
from kilnyard.heads import has_output, read_inputs, read_outputs
from kilnyard.lines import RecipeFile
from kilnyard.paths import is_path
from kilnyard.scanning import is_identifier

FIRST_FILE = "rules"
MOST_FILES = 8
MOST_RULES = 24


class Rule:
    """A rule: its outputs and inputs, whether it is sealed, and its body."""

    def __init__(self, outputs, inputs, sealed, body):
        self.outputs = outputs
        self.inputs = inputs
        self.sealed = sealed
        self.body = body

    def __eq__(self, other):
        return (isinstance(other, Rule) and self.outputs == other.outputs and self.inputs == other.inputs
                and self.sealed == other.sealed and self.body == other.body)

    def is_pattern(self):
        """True if the outputs are patterns."""
        # Outputs are of one kind, and a path has no star.
        return "*" in self.outputs[0]


class Book:
    """What the recipe files of a tree say: the defaults of settings, the rules, and the files' names."""

    def __init__(self):
        self.settings = {}
        self.rules = []
        self.files = []


def parse_book(tree):
    """The book that is read from the recipe files of a tree."""
    reader = BookReader(tree)
    text = reader.text_of(FIRST_FILE)
    if text is None:
        raise InvalidRecipe(FIRST_FILE, 1, 1, "missing file")
    reader.read_file(FIRST_FILE, text)
    return reader.book


class BookReader:
    """Reads recipe files of a tree into a new book."""

    def __init__(self, tree):
        self.tree = tree
        self.book = Book()

    def text_of(self, path):
        """The content of the recipe file that is named by a path, or None if there is no such file."""
        end = self.tree.resolve(path)
        if end is None or self.tree.writer(end) != "person":
            return None
        return self.tree.read(end)

    def read_file(self, path, text):
        """Reads a recipe file and the files that it names."""
        self.book.files.append(path)
        file = RecipeFile(path, text)
        line = file.next_line()
        while line is not None:
            self._read_line(line, file)
            line = file.next_line()

    def _read_line(self, line, file):
        """Reads a line outside of rules; a rule is read to its end."""
        word = line.word(0)
        if word == "set":
            self._read_setting(line)
        elif word == "use":
            self._read_use(line)
        elif word == "rule" or word == "sealed":
            self._read_rule(line, file, word == "sealed")
        else:
            line.refuse(0, "unknown line")

    def _read_setting(self, line):
        """Reads a line that gives a setting its default."""
        name = line.word(1)
        if not is_identifier(name):
            line.refuse(1, "invalid name")
        if name in self.book.settings:
            line.refuse(1, "duplicate setting")
        text = line.string(2)
        line.check_end(3)
        self.book.settings[name] = text

    def _read_use(self, line):
        """Reads a line that names a recipe file, and then the file unless it was named before."""
        path = line.word(1)
        if not is_path(path):
            line.refuse(1, "invalid path")
        if path in self.book.files:
            line.check_end(2)
            return
        if has_output(self.book, path):
            line.refuse(1, "reserved output")
        if len(self.book.files) == MOST_FILES:
            line.refuse(1, "too many files")
        text = self.text_of(path)
        if text is None:
            line.refuse(1, "missing file")
        line.check_end(2)
        self.read_file(path, text)

    def _read_rule(self, line, file, sealed):
        """Reads the rule that begins with a line."""
        if len(self.book.rules) == MOST_RULES:
            line.refuse(0, "too many rules")
        outputs = read_outputs(line, self.book)
        inputs = read_inputs(line, outputs)
        body = read_body(file, len(outputs))
        self.book.rules.append(Rule(outputs, inputs, sealed, body))
