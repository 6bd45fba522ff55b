"""Journals: texts from whose lines the store of a host is read again."""

from kilnyard.keys import is_content
from kilnyard.records import format_record, parse_record
from kilnyard.refusals import InvalidLength, InvalidRecord
from kilnyard.stores import Store

# The words with which the bodies of lines begin.
CONTENT = "content "
RECORD = "record "


class Journal:
    """A journal: a text that grows by lines at its end and may be cut off."""

    def __init__(self, text=""):
        self._text = text

    def text(self):
        """The whole text."""
        return self._text

    def add_content(self, text):
        """Adds the line of a content."""
        self._text = self._text + content_line(text)

    def add_record(self, record):
        """Adds the line of a record."""
        self._text = self._text + record_line(record)

    def cut(self, length):
        """Keeps so many characters from the beginning."""
        if not 0 <= length <= len(self._text):
            raise InvalidLength(length)
        self._text = self._text[:length]


def content_line(text):
    """The line of a content, with its newline."""
    return _line(CONTENT + _escaped(text))


def record_line(record):
    """The line of a record, with its newline."""
    return _line(RECORD + format_record(record))


def readable_length(text):
    """The length of the longest beginning of a text that consists of whole lines."""
    return _length_of(_whole_lines(text))


def read_journal(journal):
    """Cuts a journal off behind its whole lines, and returns a new store of these lines with this journal."""
    lines = _whole_lines(journal.text())
    journal.cut(_length_of(lines))
    store = Store()
    for line in lines:
        body = _body(line)
        if body.startswith(CONTENT):
            store.put_content(_read_content(body))
        else:
            store.add_record(_read_record(body))
    # Only now, so that reading adds nothing to the journal.
    store.journal = journal
    return store


def _line(body):
    """The line with a body."""
    return f"{len(body)} {body}\n"


def _escaped(text):
    """The escaped form of a text."""
    # Backslashes come first: those that the newlines bring are not escaped again.
    return text.replace("\\", "\\\\").replace("\n", "\\n")


def _whole_lines(text):
    """The whole lines with which a text begins, without their newlines."""
    found = []
    # What comes behind the last newline is no whole line.
    for line in text.split("\n")[:-1]:
        body = _body(line)
        if line != f"{len(body)} {body}" or (_read_content(body) is None and _read_record(body) is None):
            break
        found.append(line)
    return found


def _length_of(lines):
    """The length of lines with their newlines."""
    return sum([len(line) + 1 for line in lines])


def _body(line):
    """What comes behind the length of a line."""
    return line.partition(" ")[2]


def _read_content(body):
    """The content for which the body of a line stands, or None."""
    if not body.startswith(CONTENT):
        return None
    escaped = body[len(CONTENT):]
    # Between two pairs of backslashes a backslash can only stand for a newline.
    text = "\\".join([part.replace("\\n", "\n") for part in escaped.split("\\\\")])
    return text if is_content(text) and _escaped(text) == escaped else None


def _read_record(body):
    """The record for which the body of a line stands, or None."""
    if not body.startswith(RECORD):
        return None
    try:
        return parse_record(body[len(RECORD):])
    except InvalidRecord:
        return None
