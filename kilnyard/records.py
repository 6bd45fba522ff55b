"""Records: what one run of a job's tool saw and gave."""

from kilnyard.paths import is_name_pattern, is_path
from kilnyard.refusals import InvalidRecord
from kilnyard.scanning import is_identifier

MOST_OUTPUTS = 3
MOST_NEEDS = 60
MOST_DIGITS = 4000

# What is written for None, for True and for False; the first one also stands for no needs.
NOTHING = "-"
YES = "yes"
NO = "no"


class Record:
    """The outputs of a job, the key of its rule text, its needs, and the keys of its results."""

    def __init__(self, outputs, rule_key, needs, results):
        self.outputs = outputs
        self.rule_key = rule_key
        self.needs = needs
        self.results = results

    def __eq__(self, other):
        return (isinstance(other, Record) and self.outputs == other.outputs and self.rule_key == other.rule_key
                and self.needs == other.needs and self.results == other.results)


def question(need):
    """A need without what was seen."""
    return need[:-1]


def format_record(record):
    """The written form of a record."""
    needs = [_format_need(need) for need in record.needs]
    results = [f"{key}" for key in record.results]
    words = [",".join(record.outputs), f"{record.rule_key}", ";".join(needs), ",".join(results)]
    if needs == []:
        words[2] = NOTHING
    return " ".join(words)


def parse_record(line):
    """The record whose written form is the line."""
    words = line.split(" ")
    if len(words) != 4:
        raise InvalidRecord(line)
    outputs = words[0].split(",")
    needs = [] if words[2] == NOTHING else words[2].split(";")
    results = words[3].split(",")
    if not (_are_outputs(outputs) and _is_number(words[1]) and _are_needs(needs)
            and len(results) == len(outputs) and all([_is_number(word) for word in results])):
        raise InvalidRecord(line)
    return Record(tuple(outputs), int(words[1]), tuple([_parse_need(word) for word in needs]),
                  tuple([int(word) for word in results]))


def first_change(record, view):
    """The index of the first need that is not unchanged for a view, or None."""
    for at, need in enumerate(record.needs):
        if view.see(question(need)) != need[-1]:
            return at
    return None


def _format_need(need):
    """The written form of a need."""
    return ":".join(list(question(need)) + [_format_seen(need[-1])])


def _format_seen(seen):
    """The written form of what was seen."""
    if seen is None:
        return NOTHING
    # True and False are asked for by `is`: the key of the empty text is equal to True.
    if seen is True:
        return YES
    return NO if seen is False else f"{seen}"


def _parse_need(word):
    """The need whose written form is the word."""
    items = word.split(":")
    return tuple(items[:-1]) + (_parse_seen(items[-1]),)


def _parse_seen(word):
    """What was seen, by its written form."""
    if word == NOTHING:
        return None
    if word == YES:
        return True
    return False if word == NO else int(word)


def _are_outputs(words):
    """True if the words are outputs that a record may have."""
    return len(words) <= MOST_OUTPUTS and len(set(words)) == len(words) and all([is_path(word) for word in words])


def _are_needs(words):
    """True if the words are the written forms of needs that a record may have."""
    questions = [word.rpartition(":")[0] for word in words]
    return (len(words) <= MOST_NEEDS and len(set(questions)) == len(questions)
            and all([_is_need(word) for word in words]))


def _is_need(word):
    """True if the word is the written form of a need."""
    items = word.split(":")
    kind = items[0]
    seen = items[-1]
    if kind == "listing":
        return len(items) == 4 and _is_folder(items[1]) and is_name_pattern(items[2]) and _is_number(seen)
    if len(items) != 3:
        return False
    if kind == "setting":
        return is_identifier(items[1]) and _is_number_or_nothing(seen)
    if kind == "has":
        return is_path(items[1]) and seen in (YES, NO)
    return kind in ("file", "link") and is_path(items[1]) and _is_number_or_nothing(seen)


def _is_folder(word):
    """True if the word is a directory or stands for the top of the tree."""
    return word == "" or is_path(word)


def _is_number_or_nothing(word):
    """True if the word is the written form of a key or of None."""
    return word == NOTHING or _is_number(word)


def _is_number(word):
    """True if the word is the written form of an integer above 0 that may be a key."""
    # Digits of other alphabets are digits to Python too.
    return len(word) <= MOST_DIGITS and word.isascii() and word.isdigit() and not word.startswith("0")
