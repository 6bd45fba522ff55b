"""The tree of one host: files and links by their paths."""

from kilnyard.errors import InvalidContent, InvalidPath, NoEntry, TreeFull
from kilnyard.keys import is_content
from kilnyard.paths import is_path

MOST_PERSONS_ENTRIES = 60
MOST_LINKS = 8


class Tree:
    """A tree. `entries` has ("file", text, by) or ("link", target) for each path."""

    def __init__(self):
        self.entries = {}

    def write(self, path, text, by):
        """Creates or replaces the entry at a path by a file."""
        if not is_path(path):
            raise InvalidPath(path)
        if not is_content(text):
            raise InvalidContent(path)
        if by == "person" and not self._has_room(path):
            raise TreeFull(path)
        self.entries[path] = ("file", text, by)

    def link(self, path, target):
        """Creates or replaces the entry at a path by a link."""
        if not is_path(path):
            raise InvalidPath(path)
        if not is_path(target):
            raise InvalidPath(target)
        if not self._has_room(path):
            raise TreeFull(path)
        self.entries[path] = ("link", target)

    def erase(self, path):
        """Removes the entry at a path."""
        if path not in self.entries:
            raise NoEntry(path)
        del self.entries[path]

    def kind(self, path):
        """What is at the path: "file", "link" or "none"."""
        entry = self.entries.get(path)
        return "none" if entry is None else entry[0]

    def read(self, path):
        """The content of the file at this very path, or None."""
        return self.entries[path][1] if self.kind(path) == "file" else None

    def writer(self, path):
        """The writer of the file at this very path, or None."""
        return self.entries[path][2] if self.kind(path) == "file" else None

    def target(self, path):
        """The target of the link at this very path, or None."""
        return self.entries[path][1] if self.kind(path) == "link" else None

    def resolve(self, path):
        """The path at the end of the links from a path, or None if there is no end."""
        end = path
        for _ in range(MOST_LINKS):
            if self.kind(end) != "link":
                return end
            end = self.target(end)
        return None if self.kind(end) == "link" else end

    def paths(self):
        """The paths of all entries in ascending order."""
        return sorted(self.entries)

    def twin(self):
        """A new tree with the same entries."""
        tree = Tree()
        tree.entries = dict(self.entries)
        return tree

    def _has_room(self, path):
        """True if the entry at the path may be a person's."""
        if path in self.entries and _is_persons(self.entries[path]):
            return True
        persons = [entry for entry in self.entries.values() if _is_persons(entry)]
        return len(persons) < MOST_PERSONS_ENTRIES


def _is_persons(entry):
    """True if an entry is a link or a file that a person wrote."""
    return entry[0] == "link" or entry[2] == "person"
