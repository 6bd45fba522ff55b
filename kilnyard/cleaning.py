"""Cleaning: what a book has no use for, in trees and in stores."""

from kilnyard.refusals import DamagedRecord, NoSuchRecord
from kilnyard.targets import maker, rule_key


def strays(tree, book):
    """The paths of the files of builds that no job of the book makes."""
    return [path for path in tree.paths() if tree.writer(path) == "build" and maker(book, path) is None]


def sweep(tree, book):
    """Erases the strays of a tree, and returns their paths."""
    erased = strays(tree, book)
    for path in erased:
        tree.erase(path)
    return erased


def live_records(store, book):
    """The indexes of the whole records of jobs of the book with their present rules."""
    return [index for index in range(store.record_count()) if _is_alive(_whole_record(store, index), book)]


def live_contents(store, book):
    """The keys of the whole contents that are results of live records."""
    results = {}
    for index in live_records(store, book):
        for key in store.record(index).results:
            results[key] = True
    return [key for key in store.content_keys() if key in results and store.has_content(key)]


def clean(store, book):
    """Loses what is dead in a store; how many records and how many contents that were."""
    records = set(live_records(store, book))
    contents = set(live_contents(store, book))
    kept = [index for index, row in enumerate(store.kept_records()) if row is not None]
    dead_records = [index for index in kept if index not in records]
    dead_contents = [key for key in store.content_keys() if key not in contents]
    for index in dead_records:
        store.lose_record(index)
    for key in dead_contents:
        store.lose_content(key)
    return len(dead_records), len(dead_contents)


def _whole_record(store, index):
    """The record of an index, or None if it was lost or damaged."""
    try:
        return store.record(index)
    except (NoSuchRecord, DamagedRecord):
        return None


def _is_alive(record, book):
    """True if a record is that of a job of the book with its present rule."""
    if record is None:
        return False
    job = maker(book, record.outputs[0])
    return job is not None and job.outputs == record.outputs and rule_key(book, job) == record.rule_key
