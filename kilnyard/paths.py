"""Paths, patterns and stems."""

from kilnyard.errors import InvalidPath

MOST_NAMES = 4
NAME_LENGTH = 12
NAME_SIGNS = "abcdefghijklmnopqrstuvwxyz0123456789_."


def is_path(value):
    """True if the string is a path."""
    names = value.split("/")
    return len(names) <= MOST_NAMES and all([_is_name(name) for name in names])


def is_pattern(value):
    """True if the string is a pattern."""
    # A star may stand wherever a letter may, and it counts as one character too.
    return value.count("*") == 1 and is_path(value.replace("*", "a"))


def is_name_pattern(value):
    """True if the string is a pattern of one name."""
    return "/" not in value and is_pattern(value)


def stem_of(pattern, path):
    """The stem with which the path matches the pattern, or None."""
    before, behind = pattern.split("*")
    # Without the stem's own character, what stands around the star could overlap in the path.
    if len(path) < len(before) + 1 + len(behind):
        return None
    if not path.startswith(before) or not path.endswith(behind):
        return None
    stem = path[len(before):len(path) - len(behind)]
    return None if "/" in stem else stem


def fill(pattern, stem):
    """The pattern, or the path, with the stem in the place of its star."""
    path = pattern.replace("*", stem)
    if not is_path(path):
        raise InvalidPath(path)
    return path


def directory(path):
    """Everything before the last slash of a path, or the empty string."""
    return path.rpartition("/")[0]


def parents(path):
    """The directories above a path without the empty string, the longest first."""
    found = []
    above = directory(path)
    while above != "":
        found.append(above)
        above = directory(above)
    return found


def _is_name(name):
    """True if the string may be a name of a path."""
    if not 1 <= len(name) <= NAME_LENGTH or name.startswith("."):
        return False
    return all([sign in NAME_SIGNS for sign in name])
