"""The interface of DOC.md: its names, their arguments, and the files in which they are defined."""

import importlib
import inspect
import unittest

FUNCTIONS = {
    "kilnyard.keys": {"is_text": "value", "is_content": "value", "content_key": "text", "key_text": "key"},
    "kilnyard.paths": {"is_path": "value", "is_pattern": "value", "stem_of": "pattern path",
                       "fill": "pattern stem", "directory": "path", "parents": "path"},
    "kilnyard.scanning": {"scan_line": "path number line", "is_identifier": "value"},
    "kilnyard.expressions": {"parse_expression": "tokens start known"},
    "kilnyard.recipes": {"parse_book": "tree"},
    "kilnyard.printing": {"format_string": "text", "format_expression": "expression", "format_rule": "rule"},
    "kilnyard.texts": {"lines_of": "text", "apply_function": "name arguments"},
    "kilnyard.running": {"run_tool": "book job view"},
    "kilnyard.targets": {"make_job": "book rule stem", "owner": "book path", "maker": "book path",
                         "rule_text": "book job", "rule_key": "book job", "plain_outputs": "book",
                         "listing_text": "tree book folder pattern"},
    "kilnyard.plain": {"build_from_nothing": "tree book settings goals"},
    "kilnyard.records": {"question": "need", "format_record": "record", "parse_record": "line",
                         "first_change": "record view"},
    "kilnyard.journals": {"content_line": "text", "record_line": "record", "readable_length": "text",
                          "read_journal": "journal"},
    "kilnyard.deciding": {"candidates": "job book store hall", "at_hand": "path key tree store hall",
                          "decide": "job view store hall", "take": "job decision view store hall"},
    "kilnyard.reasons": {"check_entry": "entry build store hall"},
    "kilnyard.graphs": {"job_graph": "tree book settings goals", "users_of": "graph name",
                        "reached_from": "graph name", "rings_of": "graph", "order_of": "graph",
                        "depths_of": "graph"},
    "kilnyard.changes": {"changed_paths": "before after",
                         "touched_jobs": "book goals before before_settings after after_settings"},
    "kilnyard.cleaning": {"strays": "tree book", "sweep": "tree book", "live_records": "store book",
                          "live_contents": "store book", "clean": "store book"},
    "kilnyard.saving": {"save_tree": "tree", "save_settings": "settings", "save_store": "store",
                        "load_tree": "text", "load_settings": "text", "load_store": "text"},
}

# For each class its base class, the arguments with which it is created (None: the document does not say), and
# its methods.
CLASSES = {
    "kilnyard.errors": {
        "BuildError": ("ValueError", None, {}),
        "InvalidKey": ("BuildError", "key", {}),
        "InvalidPath": ("BuildError", "path", {}),
        "InvalidContent": ("BuildError", "path", {}),
        "NoEntry": ("BuildError", "path", {}),
        "TreeFull": ("BuildError", "path", {}),
        "InvalidRecipe": ("BuildError", "path line column reason", {}),
        "Held": ("BuildError", "job", {}),
    },
    "kilnyard.trees": {
        "Tree": ("object", "", {
            "write": "path text by", "link": "path target", "erase": "path", "kind": "path", "read": "path",
            "writer": "path", "target": "path", "resolve": "path", "paths": "", "twin": ""}),
    },
    "kilnyard.expressions": {
        "BadToken": ("BuildError", "column reason", {}),
    },
    "kilnyard.recipes": {
        "Rule": ("object", "outputs inputs sealed body", {"is_pattern": ""}),
        "Book": ("object", "", {}),
    },
    "kilnyard.running": {
        "Run": ("object", None, {}),
    },
    "kilnyard.targets": {
        "Job": ("object", "rule stem outputs inputs", {"name": ""}),
    },
    "kilnyard.plain": {
        "Outcome": ("object", None, {}),
    },
    "kilnyard.records": {
        "Record": ("object", "outputs rule_key needs results", {}),
    },
    "kilnyard.stores": {
        "Store": ("object", "journal", {
            "put_content": "text", "content": "key", "has_content": "key", "add_record": "record", "record": "index",
            "find_records": "outputs rule_key", "lose_content": "key", "damage_content": "key text",
            "lose_record": "index", "damage_record": "index line", "content_keys": "", "record_count": "",
            "twin": "", "kept_texts": "", "kept_records": "", "fill_from": "texts rows"}),
    },
    "kilnyard.journals": {
        "Journal": ("object", "text", {"text": "", "add_content": "text", "add_record": "record", "cut": "length"}),
    },
    "kilnyard.views": {
        "View": ("object", "tree book settings", {
            "mark_done": "job", "is_done": "job", "without": "name", "is_source": "path", "see": "question"}),
    },
    "kilnyard.building": {
        "Build": ("object", "tree book settings store hall goals keep_going", {
            "outcome": "", "states": "", "ready": "", "start": "name", "start_again": "name", "finish": "attempt",
            "drop": "attempt", "give_up": "name", "writes": "attempt", "attempt_count": "", "job": "name",
            "attempt_job": "attempt", "attempt_steps": "attempt", "cancel": "", "contents": "", "failures": "",
            "rings": "", "ledger": "", "view": ""}),
    },
    "kilnyard.crews": {
        "Crew": ("object", "build speeds patience tries", {
            "clock": "", "worker_state": "worker", "worker_attempt": "worker", "tick": "", "run": "moments",
            "lose": "worker", "hire": "worker", "delay": "worker moments", "bring_twice": "worker"}),
    },
    "kilnyard.houses": {
        "House": ("object", "count", {
            "host_count": "", "is_up": "host", "shares": "host", "settings": "host", "write": "host path text",
            "erase": "host path", "link": "host path target", "set_text": "host name text", "unset": "host name",
            "share": "host on", "begin": "host goals keep_going", "build": "host", "crash": "host",
            "crash_in": "host attempt count extra", "restart": "host", "hall": "", "store": "host",
            "journal": "host", "tree": "host"}),
    },
    "kilnyard.graphs": {
        "HasRing": ("BuildError", "names", {}),
    },
    "kilnyard.saving": {
        "InvalidSave": ("BuildError", "line", {}),
    },
    "kilnyard.refusals": {
        "InvalidRecord": ("BuildError", "line", {}),
        "MissingContent": ("BuildError", "key", {}),
        "NoSuchRecord": ("BuildError", "index", {}),
        "DamagedRecord": ("BuildError", "index", {}),
        "InvalidLength": ("BuildError", "length", {}),
        "InvalidGoals": ("BuildError", "count", {}),
        "BuildOver": ("BuildError", None, {}),
        "NotReady": ("BuildError", "name", {}),
        "NotRunning": ("BuildError", "name", {}),
        "NoSuchAttempt": ("BuildError", "attempt", {}),
        "InvalidCrew": ("BuildError", None, {}),
        "NoSuchWorker": ("BuildError", "worker", {}),
        "WorkerGone": ("BuildError", "worker", {}),
        "WorkerThere": ("BuildError", "worker", {}),
        "WorkerIdle": ("BuildError", "worker", {}),
        "InvalidDelay": ("BuildError", "moments", {}),
        "InvalidHouse": ("BuildError", "count", {}),
        "NoSuchHost": ("BuildError", "host", {}),
        "HostDown": ("BuildError", "host", {}),
        "HostUp": ("BuildError", "host", {}),
        "HostBusy": ("BuildError", "host", {}),
        "NoBuild": ("BuildError", "host", {}),
        "InvalidCount": ("BuildError", "count", {}),
        "InvalidSetting": ("BuildError", "name", {}),
    },
}


def arguments(function):
    """The names of the arguments of a function, separated by spaces."""
    return " ".join(inspect.signature(function).parameters)


class TestInterface(unittest.TestCase):
    def test_functions(self):
        for place, functions in FUNCTIONS.items():
            module = importlib.import_module(place)
            for name, expected in functions.items():
                with self.subTest(module=place, name=name):
                    function = getattr(module, name)
                    self.assertTrue(inspect.isfunction(function))
                    self.assertEqual(function.__module__, place)
                    self.assertEqual(arguments(function), expected)

    def test_classes(self):
        for place, classes in CLASSES.items():
            module = importlib.import_module(place)
            for name, (base, created_with, methods) in classes.items():
                with self.subTest(module=place, name=name):
                    owner = getattr(module, name)
                    self.assertTrue(inspect.isclass(owner))
                    self.assertEqual(owner.__module__, place)
                    self.assertEqual([each.__name__ for each in owner.__bases__], [base])
                    if created_with is not None:
                        self.assertEqual(arguments(owner), created_with)
                    for method, expected in methods.items():
                        self.assertIn(method, vars(owner))
                        self.assertEqual(arguments(vars(owner)[method]), ("self " + expected).strip())


if __name__ == "__main__":
    unittest.main()
