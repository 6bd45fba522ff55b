"""The saved forms of trees, settings and stores."""

from kilnyard.errors import BuildError, InvalidRecipe
from kilnyard.keys import content_key, is_content, is_text, key_text
from kilnyard.printing import format_string
from kilnyard.scanning import is_identifier, scan_line
from kilnyard.stores import Store
from kilnyard.texts import lines_of
from kilnyard.trees import Tree

WRITERS = ("person", "build")
MOST_DIGITS = 4


class InvalidSave(BuildError):
    """A text is not a saved form; the line of this number has the first error."""

    def __init__(self, line):
        BuildError.__init__(self, f"line {line} of the saved form has an error")
        self.line = line


def save_tree(tree):
    """The saved form of a tree."""
    return "\n".join([_entry_line(tree, path) for path in tree.paths()])


def load_tree(text):
    """A new tree from its saved form."""
    return _read_lines(text, _read_entry, Tree())


def save_settings(settings):
    """The saved form of settings."""
    return "\n".join([_setting_line(name, settings[name]) for name in sorted(settings)])


def load_settings(text):
    """New settings from their saved form."""
    return _read_lines(text, _read_setting, {})


def save_store(store):
    """The saved form of a store."""
    texts = store.kept_texts()
    lines = [_content_line(key_text(key), texts[key]) for key in store.content_keys()]
    for index, row in enumerate(store.kept_records()):
        if row is not None:
            lines.append(_row_line(index, key_text(row[0]), row[1]))
    return "\n".join(lines + [_count_line(store.record_count())])


def load_store(text):
    """A new store without a journal from its saved form."""
    reader = StoreReader()
    lines = lines_of(text)
    for number, line in enumerate(lines, start=1):
        if not reader.read(line):
            raise InvalidSave(number)
    if reader.count is None:
        raise InvalidSave(len(lines) + 1)
    store = Store()
    store.fill_from(reader.texts, [reader.rows.get(index) for index in range(reader.count)])
    return store


class StoreReader:
    """Reads the lines of the saved form of a store."""

    def __init__(self):
        self.texts = {}
        # The kept keys and the kept lines of the records by their indexes.
        self.rows = {}
        self.last_key = 0
        self.last_index = -1
        self.count = None

    def read(self, line):
        """Reads the next line; False if it has an error."""
        if self.count is not None:
            return False
        # Only a line that would be written in this way is one of a saved form.
        parts = _parts(line)
        if len(parts) == 3 and _content_line(parts[1], parts[2]) == line:
            return self._read_content(parts[1], parts[2])
        if len(parts) not in (2, 4) or not _is_number(parts[1]):
            return False
        number = int(parts[1])
        if len(parts) == 4 and _row_line(number, parts[2], parts[3]) == line:
            return self._read_record(number, parts[2], parts[3])
        return _count_line(number) == line and self._read_count(number)

    def _read_content(self, right, kept):
        """Reads what is kept under the key of a text."""
        if self.rows != {} or not is_text(right) or not is_text(kept):
            return False
        key = content_key(right)
        if key <= self.last_key:
            return False
        self.texts[key] = kept
        self.last_key = key
        return True

    def _read_record(self, index, right, kept):
        """Reads what is kept of the record of an index."""
        if index <= self.last_index or not is_text(right) or not is_text(kept):
            return False
        self.rows[index] = (content_key(right), kept)
        self.last_index = index
        return True

    def _read_count(self, count):
        """Reads how many records were added."""
        if count <= self.last_index:
            return False
        self.count = count
        return True


def _entry_line(tree, path):
    """The line of the entry at a path of a tree."""
    if tree.kind(path) == "link":
        return f"link {path} {tree.target(path)}"
    return f"file {path} {tree.writer(path)} {format_string(tree.read(path))}"


def _setting_line(name, text):
    """The line of a setting."""
    return f"setting {name} {format_string(text)}"


def _content_line(right, kept):
    """The line of what is kept under the key of the right text."""
    return f"content {format_string(right)} {format_string(kept)}"


def _row_line(index, right, kept):
    """The line of what is kept of a record with the key of the right line."""
    return f"record {index} {format_string(right)} {format_string(kept)}"


def _count_line(count):
    """The line that tells how many records were added."""
    return f"records {count}"


def _read_lines(text, read_line, found):
    """Adds what the lines of a text tell to a tree or to settings; each line comes behind the one before it."""
    last = ""
    for number, line in enumerate(lines_of(text), start=1):
        name = read_line(found, line)
        if name is None or name <= last:
            raise InvalidSave(number)
        last = name
    return found


def _read_entry(tree, line):
    """Adds the entry of a line to a tree, and returns its path; None if the line has an error."""
    parts = _parts(line)
    try:
        if len(parts) == 3:
            tree.link(parts[1], parts[2])
        elif len(parts) == 4 and parts[2] in WRITERS:
            tree.write(parts[1], parts[3], parts[2])
        else:
            return None
    except BuildError:
        return None
    return parts[1] if _entry_line(tree, parts[1]) == line else None


def _read_setting(settings, line):
    """Adds the setting of a line to settings, and returns its name; None if the line has an error."""
    parts = _parts(line)
    if len(parts) != 3 or not is_identifier(parts[1]) or not is_content(parts[2]):
        return None
    settings[parts[1]] = parts[2]
    return parts[1] if _setting_line(parts[1], parts[2]) == line else None


def _parts(line):
    """The words of a line and what its strings stand for; empty if the line cannot be read."""
    try:
        return [text for _, text, _ in scan_line("", 0, line)]
    except InvalidRecipe:
        return []


def _is_number(word):
    """True if a word consists of up to four digits."""
    # Digits of other alphabets are digits to Python too.
    return len(word) <= MOST_DIGITS and word.isascii() and word.isdigit()
