"""The errors with which records, stores, journals, builds, crews and houses refuse a call."""

from kilnyard.errors import BuildError


class InvalidRecord(BuildError):
    """A line is not the written form of a record."""

    def __init__(self, line):
        BuildError.__init__(self, f"not the written form of a record: {line}")
        self.line = line


class MissingContent(BuildError):
    """A store keeps nothing under a key, or nothing that is whole."""

    def __init__(self, key):
        # The key is not written out: Python refuses that for very large integers.
        BuildError.__init__(self, "no whole content is kept under this key")
        self.key = key


class NoSuchRecord(BuildError):
    """A store never had a record with an index, or the record was lost."""

    def __init__(self, index):
        BuildError.__init__(self, f"no record {index}")
        self.index = index


class DamagedRecord(BuildError):
    """A store has a record with an index, but it is not whole."""

    def __init__(self, index):
        BuildError.__init__(self, f"record {index} is damaged")
        self.index = index


class InvalidLength(BuildError):
    """A journal cannot be cut off at a length."""

    def __init__(self, length):
        BuildError.__init__(self, f"the journal has no beginning of the length {length}")
        self.length = length


class InvalidGoals(BuildError):
    """A build cannot have so many goals."""

    def __init__(self, count):
        BuildError.__init__(self, f"a build cannot have {count} goals")
        self.count_of_goals = count


class BuildOver(BuildError):
    """A build is not going."""


class NotReady(BuildError):
    """A build has no ready job of a name."""

    def __init__(self, name):
        BuildError.__init__(self, f"no ready job {name}")
        self.name = name


class NotRunning(BuildError):
    """A build has no running job of a name."""

    def __init__(self, name):
        BuildError.__init__(self, f"no running job {name}")
        self.name = name


class NoSuchAttempt(BuildError):
    """A build never started an attempt of a number."""

    def __init__(self, attempt):
        BuildError.__init__(self, f"no attempt {attempt}")
        self.attempt = attempt


class InvalidCrew(BuildError):
    """A crew cannot be as it is asked for."""


class NoSuchWorker(BuildError):
    """A crew has no worker of a number."""

    def __init__(self, worker):
        BuildError.__init__(self, f"no worker {worker}")
        self.worker = worker


class WorkerGone(BuildError):
    """A worker is gone."""

    def __init__(self, worker):
        BuildError.__init__(self, f"worker {worker} is gone")
        self.worker = worker


class WorkerThere(BuildError):
    """A worker is not gone."""

    def __init__(self, worker):
        BuildError.__init__(self, f"worker {worker} is not gone")
        self.worker = worker


class WorkerIdle(BuildError):
    """A worker is not busy."""

    def __init__(self, worker):
        BuildError.__init__(self, f"worker {worker} is not busy")
        self.worker = worker


class InvalidDelay(BuildError):
    """An attempt cannot be delayed by so many moments."""

    def __init__(self, moments):
        BuildError.__init__(self, f"no delay has {moments} moments")
        self.moments = moments


class InvalidHouse(BuildError):
    """A house cannot have so many hosts."""

    def __init__(self, count):
        BuildError.__init__(self, f"a house cannot have {count} hosts")
        self.count_of_hosts = count


class NoSuchHost(BuildError):
    """A house has no host of a number."""

    def __init__(self, host):
        BuildError.__init__(self, f"no host {host}")
        self.host = host


class HostDown(BuildError):
    """A host is down."""

    def __init__(self, host):
        BuildError.__init__(self, f"host {host} is down")
        self.host = host


class HostUp(BuildError):
    """A host is up."""

    def __init__(self, host):
        BuildError.__init__(self, f"host {host} is up")
        self.host = host


class HostBusy(BuildError):
    """The build of a host is going."""

    def __init__(self, host):
        BuildError.__init__(self, f"the build of host {host} is going")
        self.host = host


class NoBuild(BuildError):
    """A host has no build."""

    def __init__(self, host):
        BuildError.__init__(self, f"host {host} has no build")
        self.host = host


class InvalidCount(BuildError):
    """A crash cannot leave so many writes, or so many characters."""

    def __init__(self, count):
        BuildError.__init__(self, f"not a count: {count}")
        self.amount = count


class InvalidSetting(BuildError):
    """A name is not that of a setting."""

    def __init__(self, name):
        BuildError.__init__(self, f"not the name of a setting: {name}")
        self.name = name
