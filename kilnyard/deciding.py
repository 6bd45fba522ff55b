"""Decisions: whether a record tells what a job's tool would give, or the tool has to run."""

from kilnyard.keys import content_key
from kilnyard.records import first_change, question
from kilnyard.targets import rule_key


def candidates(job, book, store, hall):
    """The job's records as (place, index): those of the host's store, then those of the hall, the newest first."""
    key = rule_key(book, job)
    own = [("own", index) for index in store.find_records(job.outputs, key)]
    if hall is None:
        return own
    return own + [("hall", index) for index in hall.find_records(job.outputs, key)]


def at_hand(path, key, tree, store, hall):
    """True if the tree has the content with this key at the path, or the store or the hall has it."""
    if has_result(path, key, tree) or store.has_content(key):
        return True
    return hall is not None and hall.has_content(key)


def decide(job, view, store, hall):
    """The record to take as ("take", place, index), or ("run", refused) with what is wrong with each candidate."""
    refused = []
    for place, index in candidates(job, view.book, store, hall):
        refusal = _refusal(record_at(place, index, store, hall), view, store, hall)
        if refusal is None:
            return "take", place, index
        refused.append((place, index) + refusal)
    return "run", tuple(refused)


def take(job, decision, view, store, hall):
    """Writes the results of the record that a decision takes to the tree."""
    record = record_at(decision[1], decision[2], store, hall)
    for path, key in zip(job.outputs, record.results):
        text = view.tree.read(path) if has_result(path, key, view.tree) else _fetch(key, store, hall)
        # A file that has the content already comes to count as a build's by this, too.
        view.tree.write(path, text, "build")


def record_at(place, index, store, hall):
    """The whole record of a candidate."""
    return store.record(index) if place == "own" else hall.record(index)


def has_result(path, key, tree):
    """True if the tree has a file with the content of this key at the path, whoever wrote it."""
    text = tree.read(path)
    return text is not None and content_key(text) == key


def first_missing_result(record, tree, store, hall):
    """The index of the first result of a record that is not at hand, or None."""
    for at, path in enumerate(record.outputs):
        if not at_hand(path, record.results[at], tree, store, hall):
            return at
    return None


def _refusal(record, view, store, hall):
    """What is wrong with a candidate as the end of its tuple in `refused`, or None if it can be taken."""
    change = first_change(record, view)
    if change is not None:
        return "need", change, view.see(question(record.needs[change]))
    missing = first_missing_result(record, view.tree, store, hall)
    return None if missing is None else ("result", missing)


def _fetch(key, store, hall):
    """The text of a content that the store or the hall has; the store has it from then on."""
    if not store.has_content(key):
        store.put_content(hall.content(key))
    return store.content(key)
