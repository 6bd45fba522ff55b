"""Houses: several hosts with one hall, and what persons and crashes do to them."""

from kilnyard.building import Build
from kilnyard.errors import InvalidContent
from kilnyard.journals import Journal, read_journal
from kilnyard.keys import is_content
from kilnyard.recipes import parse_book
from kilnyard.refusals import (
    HostBusy, HostDown, HostUp, InvalidCount, InvalidHouse, InvalidSetting, NoBuild, NoSuchHost,
)
from kilnyard.scanning import is_identifier
from kilnyard.stores import Store
from kilnyard.trees import Tree
from kilnyard.writing import carry_out

MOST_HOSTS = 4


class Host:
    """A host of a house. It is down while it has no store."""

    def __init__(self):
        self.tree = Tree()
        self.settings = {}
        self.journal = Journal()
        self.store = Store(self.journal)
        self.build = None
        self.shares = False


class House:
    """Hosts, numbered from 0, and a hall that they may share."""

    def __init__(self, count):
        if not 1 <= count <= MOST_HOSTS:
            raise InvalidHouse(count)
        self._hosts = [Host() for _ in range(count)]
        self._hall = Store()

    def host_count(self):
        """How many hosts there are."""
        return len(self._hosts)

    def is_up(self, host):
        """True if a host is up."""
        return self._host(host).store is not None

    def shares(self, host):
        """True if a host shares the hall."""
        return self._host(host).shares

    def settings(self, host):
        """A dict from the names of the host's own settings to their texts."""
        return dict(self._host(host).settings)

    def hall(self):
        """The hall itself."""
        return self._hall

    def store(self, host):
        """The store itself of a host that is up."""
        return self._up_host(host).store

    def journal(self, host):
        """The journal itself of a host."""
        return self._host(host).journal

    def tree(self, host):
        """The tree itself of a host."""
        return self._host(host).tree

    def write(self, host, path, text):
        """A person writes a file."""
        self._free_host(host).tree.write(path, text, "person")

    def erase(self, host, path):
        """A person removes an entry."""
        self._free_host(host).tree.erase(path)

    def link(self, host, path, target):
        """A person creates a link."""
        self._free_host(host).tree.link(path, target)

    def set_text(self, host, name, text):
        """A person gives a setting of the host a text."""
        free = self._free_host(host)
        if not is_identifier(name):
            raise InvalidSetting(name)
        if not is_content(text):
            raise InvalidContent(name)
        free.settings[name] = text

    def unset(self, host, name):
        """A person takes the host's own text of a setting away."""
        free = self._free_host(host)
        if name not in free.settings:
            raise InvalidSetting(name)
        del free.settings[name]

    def share(self, host, on):
        """Says whether builds that a host begins from now on share the hall."""
        sharing = self._host(host)
        sharing.shares = on

    def begin(self, host, goals, *, keep_going=False):
        """Begins a build of what the host's recipes say now."""
        free = self._free_host(host)
        book = parse_book(free.tree)
        hall = self._hall if free.shares else None
        free.build = Build(free.tree, book, free.settings, free.store, hall, goals, keep_going=keep_going)
        return free.build

    def build(self, host):
        """The build that was begun latest since the host came up."""
        build = self._host(host).build
        if build is None:
            raise NoBuild(host)
        return build

    def crash(self, host):
        """Takes a host down."""
        _take_down(self._up_host(host))

    def crash_in(self, host, attempt, count, extra):
        """Takes a host down in the middle of finishing an attempt."""
        crashing = self._up_host(host)
        writes = self.build(host).writes(attempt)
        if count < 0:
            raise InvalidCount(count)
        if extra < 0:
            raise InvalidCount(extra)
        for write in writes[:count]:
            carry_out(write, crashing.tree, crashing.store, self._hall)
        if count < len(writes):
            _begin_write(writes[count], crashing, extra)
        _take_down(crashing)

    def restart(self, host):
        """Brings a host up; how many records it has then."""
        starting = self._host(host)
        if starting.store is not None:
            raise HostUp(host)
        starting.store = read_journal(starting.journal)
        return starting.store.record_count()

    def _host(self, number):
        """The host of a number."""
        if not 0 <= number < len(self._hosts):
            raise NoSuchHost(number)
        return self._hosts[number]

    def _up_host(self, number):
        """The host of a number that must be up."""
        host = self._host(number)
        if host.store is None:
            raise HostDown(number)
        return host

    def _free_host(self, number):
        """The host of a number that must be up and whose build must not be going."""
        host = self._up_host(number)
        if host.build is not None and host.build.outcome() == "going":
            raise HostBusy(number)
        return host


def _take_down(host):
    """Takes the build and the store of a host away."""
    if host.build is not None:
        # Whoever still has the build can ask it, but it does nothing any more.
        host.build.cancel()
    host.build = None
    host.store = None


def _begin_write(write, host, extra):
    """Does so many characters of a write, if it is one of the host's journal."""
    if write[0] not in ("content", "record"):
        return
    length = len(host.journal.text())
    carry_out(write, host.tree, host.store, None)
    # A content that the store has whole brings no line.
    host.journal.cut(min(length + extra, len(host.journal.text())))
