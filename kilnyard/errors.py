"""The errors that several modules raise."""


class BuildError(ValueError):
    """The base class of all errors that the program raises."""


class InvalidKey(BuildError):
    """An integer is the key of no text."""

    def __init__(self, key):
        # The key is not written out: Python refuses that for very large integers.
        BuildError.__init__(self, "this integer is the key of no text")
        self.key = key


class InvalidPath(BuildError):
    """A string is not a path."""

    def __init__(self, path):
        BuildError.__init__(self, f"not a path: {path}")
        self.path = path


class InvalidContent(BuildError):
    """What is to be written at a path is not a content."""

    def __init__(self, path):
        BuildError.__init__(self, f"not a content, at {path}")
        self.path = path


class NoEntry(BuildError):
    """A tree has no entry at a path."""

    def __init__(self, path):
        BuildError.__init__(self, f"no entry at {path}")
        self.path = path


class TreeFull(BuildError):
    """A tree has no room for a person's entry at a path."""

    def __init__(self, path):
        BuildError.__init__(self, f"no room for a person's entry at {path}")
        self.path = path


class InvalidRecipe(BuildError):
    """A recipe file has an error at a line and a column, which count from 1."""

    def __init__(self, path, line, column, reason):
        BuildError.__init__(self, f"{path}, line {line}, column {column}: {reason}")
        self.path = path
        self.line = line
        self.column = column
        self.reason = reason


class Held(BuildError):
    """A question has no answer before a job is done."""

    def __init__(self, job):
        BuildError.__init__(self, "held at a job that is not done")
        self.job = job
