"""The store of one host: contents by their keys, and records by their indexes."""

from kilnyard.keys import content_key
from kilnyard.records import format_record, parse_record
from kilnyard.refusals import DamagedRecord, InvalidRecord, MissingContent, NoSuchRecord


class Store:
    """A store. A store with a journal writes each content and each record to it first."""

    def __init__(self, journal=None):
        self.journal = journal
        self._texts = {}
        # For each record that was added its kept key and its kept line, or None if it was lost.
        self._rows = []

    def put_content(self, text):
        """Keeps a content, and returns its key."""
        key = content_key(text)
        if self.journal is not None and not self.has_content(key):
            self.journal.add_content(text)
        self._texts[key] = text
        return key

    def content(self, key):
        """The text of a whole content."""
        if not self.has_content(key):
            raise MissingContent(key)
        return self._texts[key]

    def has_content(self, key):
        """True if a whole content is kept under the key."""
        return key in self._texts and content_key(self._texts[key]) == key

    def add_record(self, record):
        """Keeps a record, and returns its index."""
        line = format_record(record)
        if self.journal is not None:
            self.journal.add_record(record)
        self._rows.append((content_key(line), line))
        return len(self._rows) - 1

    def record(self, index):
        """The record with an index, if it is whole."""
        self._check_kept(index)
        found = _read_row(self._rows[index])
        if found is None:
            raise DamagedRecord(index)
        return found

    def find_records(self, outputs, rule_key):
        """The indexes of the whole records with these outputs and this rule key, the newest first."""
        # The lines of all other records begin otherwise, so that they need not be read.
        start = " ".join([",".join(outputs), f"{rule_key}", ""])
        found = []
        for index, row in enumerate(self._rows):
            if row is not None and row[1].startswith(start) and _read_row(row) is not None:
                found.append(index)
        return found[::-1]

    def lose_content(self, key):
        """Removes what is kept under a key."""
        self._check_content(key)
        del self._texts[key]

    def damage_content(self, key, text):
        """Replaces the text that is kept under a key."""
        self._check_content(key)
        self._texts[key] = text

    def lose_record(self, index):
        """Removes a record; its index is not used again."""
        self._check_kept(index)
        self._rows[index] = None

    def damage_record(self, index, line):
        """Replaces the line that is kept of a record."""
        self._check_kept(index)
        self._rows[index] = (self._rows[index][0], line)

    def content_keys(self):
        """The keys under which something is kept, ascending."""
        return sorted(self._texts)

    def record_count(self):
        """How many records were added, the lost ones included."""
        return len(self._rows)

    def twin(self):
        """A new store without a journal that keeps the same."""
        store = Store()
        store.fill_from(self._texts, self._rows)
        return store

    def kept_texts(self):
        """A dict from the keys under which something is kept to the kept texts."""
        return dict(self._texts)

    def kept_records(self):
        """For each record that was added its kept key and its kept line, or None if it was lost."""
        return list(self._rows)

    def fill_from(self, texts, rows):
        """Replaces everything by what `kept_texts` and `kept_records` of a store gave."""
        self._texts = dict(texts)
        self._rows = list(rows)

    def _check_content(self, key):
        """Checks that something is kept under a key."""
        if key not in self._texts:
            raise MissingContent(key)

    def _check_kept(self, index):
        """Checks that there is a record with an index, whole or not."""
        if not 0 <= index < len(self._rows) or self._rows[index] is None:
            raise NoSuchRecord(index)


def _read_row(row):
    """The record of a kept key and a kept line, or None if it is not whole."""
    key, line = row
    if content_key(line) != key:
        return None
    try:
        return parse_record(line)
    except InvalidRecord:
        return None
