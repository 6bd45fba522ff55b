"""Points 90 to 97: stores."""

import unittest

from kilnyard.keys import content_key
from kilnyard.records import Record, format_record
from kilnyard.refusals import DamagedRecord, InvalidRecord, MissingContent, NoSuchRecord
from kilnyard.stores import Store

LONG = "x" * 400
TEXTS = ["", "a", "b\n", "a\\n\nb", LONG, "\n" * 400]
KEY = content_key("a")


def record_of(name="a", rule_key=5, result=1, needs=()):
    return Record((name,), rule_key, needs, (result,))


def row_of(record):
    """The kept key and the kept line of a record."""
    line = format_record(record)
    return (content_key(line), line)


def state(store):
    """All that a store keeps."""
    return store.kept_texts(), store.kept_records(), store.record_count(), store.content_keys()


class Notebook:
    """A journal that notes what is added to it, and what its store kept at that moment."""

    def __init__(self):
        self.store = None
        self.added = []
        self.states = []

    def add_content(self, text):
        self.added.append(text)
        self.states.append(state(self.store))

    def add_record(self, record):
        self.added.append(format_record(record))
        self.states.append(state(self.store))


class StoreCase(unittest.TestCase):
    def setUp(self):
        self.store = Store()

    def fill(self):
        """Puts contents and records into the store, and loses and damages some of them."""
        self.store.put_content("a")
        self.store.put_content("b")
        self.store.damage_content(KEY, "c")
        for name in "abc":
            self.store.add_record(record_of(name))
        self.store.lose_record(0)
        self.store.damage_record(1, "x")

    def look(self):
        """Asks the store for what it has and for what it does not have."""
        for key in (KEY, 1, content_key("b"), 0):
            self.store.has_content(key)
            try:
                self.store.content(key)
            except MissingContent:
                pass
        for index in range(-1, 5):
            try:
                self.store.record(index)
            except (NoSuchRecord, DamagedRecord):
                pass
        self.store.find_records(("a",), 5)
        self.store.find_records(("b",), 5)
        self.store.twin()

    def check_error(self, kind, call, *arguments):
        """The call raises an error of this kind about its first argument, and changes nothing."""
        before = state(self.store)
        with self.subTest(call=call, arguments=arguments):
            with self.assertRaises(kind) as caught:
                getattr(self.store, call)(*arguments)
            self.assertIs(caught.exception.__class__, kind)
            self.assertEqual(vars(caught.exception), {("key" if kind is MissingContent else "index"): arguments[0]})
            self.assertEqual(state(self.store), before)

    def check_missing(self, *keys):
        for key in keys:
            self.check_error(MissingContent, "content", key)
            self.assertIs(self.store.has_content(key), False)

    def check_content(self, text):
        self.assertEqual(self.store.content(content_key(text)), text)
        self.assertIs(self.store.has_content(content_key(text)), True)

    def check_records(self, *records):
        """The store has these records; None stands for a lost one, False for a damaged one."""
        self.assertEqual(self.store.record_count(), len(records))
        for index, record in enumerate(records):
            if record is None:
                self.check_error(NoSuchRecord, "record", index)
            elif record is False:
                self.check_error(DamagedRecord, "record", index)
            else:
                self.assertEqual(self.store.record(index), record)
        for index in (-1, -len(records), len(records), len(records) + 1, 10 ** 9):
            if not 0 <= index < len(records):
                self.check_error(NoSuchRecord, "record", index)


class TestNew(StoreCase):
    def test_a_new_store_is_empty(self):
        self.assertEqual(state(self.store), ({}, [], 0, []))
        self.assertIsNone(self.store.journal)
        self.check_missing(1, KEY, 0, -1)
        self.check_records()
        self.assertEqual(self.store.find_records(("a",), 5), [])

    def test_stores_have_nothing_in_common(self):
        other = Store()
        self.store.put_content("a")
        self.store.add_record(record_of())
        self.assertEqual(state(other), ({}, [], 0, []))

    def test_the_journal_is_kept_as_it_is(self):
        book = Notebook()
        self.assertIs(Store(book).journal, book)
        self.assertIs(Store(journal=book).journal, book)


class TestContents(StoreCase):
    def test_contents_are_kept_under_their_keys(self):
        for text in TEXTS:
            self.assertEqual(self.store.put_content(text), content_key(text))
        for text in TEXTS:
            self.check_content(text)
        self.check_missing(content_key("c"), 0, -5, 2)

    def test_a_content_that_is_put_twice(self):
        self.assertEqual(self.store.put_content("a"), KEY)
        self.assertEqual(self.store.put_content("a"), KEY)
        self.assertEqual(self.store.kept_texts(), {KEY: "a"})

    def test_keys_come_ascending(self):
        for text in ("b", "", LONG, "aa", "a"):
            self.store.put_content(text)
        self.assertEqual(self.store.content_keys(), [content_key(text) for text in ("", "a", "b", "aa", LONG)])

    def test_a_lost_content(self):
        self.store.put_content("a")
        self.store.put_content("b")
        self.assertIsNone(self.store.lose_content(KEY))
        self.check_missing(KEY)
        self.check_content("b")
        self.assertEqual(self.store.content_keys(), [content_key("b")])
        self.check_error(MissingContent, "lose_content", KEY)
        self.check_error(MissingContent, "damage_content", KEY, "a")

    def test_a_lost_content_that_is_put_again(self):
        self.store.put_content("a")
        self.store.lose_content(KEY)
        self.store.put_content("a")
        self.check_content("a")

    def test_a_damaged_content(self):
        self.store.put_content("a")
        for text in ("b", "", LONG, "x" * 1000, "a\n"):
            with self.subTest(text=text):
                self.assertIsNone(self.store.damage_content(KEY, text))
                self.check_missing(KEY, content_key(text))
                self.assertEqual(self.store.content_keys(), [KEY])
                self.assertEqual(self.store.kept_texts(), {KEY: text})

    def test_a_damaged_content_that_is_made_whole(self):
        self.store.put_content("a")
        self.store.damage_content(KEY, "b")
        self.store.damage_content(KEY, "a")
        self.check_content("a")
        self.store.damage_content(KEY, "b")
        self.assertEqual(self.store.put_content("a"), KEY)
        self.check_content("a")

    def test_a_damaged_content_that_is_lost(self):
        self.store.put_content("a")
        self.store.damage_content(KEY, "b")
        self.store.lose_content(KEY)
        self.check_missing(KEY)
        self.assertEqual(self.store.content_keys(), [])

    def test_nothing_is_kept_under_other_keys(self):
        self.store.put_content("a")
        for key in (content_key("b"), 0, -1, 2):
            self.check_error(MissingContent, "lose_content", key)
            self.check_error(MissingContent, "damage_content", key, "a")

    def test_damage_does_not_add_the_text_under_its_own_key(self):
        self.store.put_content("a")
        self.store.put_content("b")
        self.store.damage_content(KEY, "b")
        self.check_content("b")
        self.store.lose_content(content_key("b"))
        self.check_missing(content_key("b"), KEY)


class TestRecords(StoreCase):
    RECORDS = [record_of("a"), record_of("b", needs=(("file", "c", None), ("has", "d", True))), record_of("a"),
               Record(("c", "a/b"), 7, (("listing", "", "*", 1),), (1, content_key(LONG)))]

    def add_all(self):
        for index, record in enumerate(self.RECORDS):
            self.assertEqual(self.store.add_record(record), index)

    def test_records_are_kept_in_their_order(self):
        self.add_all()
        self.check_records(*self.RECORDS)

    def test_records_that_are_equal_are_kept_one_by_one(self):
        for index in range(3):
            self.assertEqual(self.store.add_record(record_of()), index)
        self.check_records(record_of(), record_of(), record_of())

    def test_a_lost_record(self):
        self.add_all()
        self.assertIsNone(self.store.lose_record(1))
        self.check_records(self.RECORDS[0], None, *self.RECORDS[2:])
        self.check_error(NoSuchRecord, "lose_record", 1)
        self.check_error(NoSuchRecord, "damage_record", 1, format_record(self.RECORDS[1]))

    def test_an_index_is_not_used_again(self):
        self.add_all()
        self.store.lose_record(3)
        self.assertEqual(self.store.add_record(record_of("x")), 4)
        self.check_records(*self.RECORDS[:3], None, record_of("x"))
        for index in (0, 1, 2, 4):
            self.store.lose_record(index)
        self.assertEqual(self.store.add_record(record_of("y")), 5)
        self.check_records(None, None, None, None, None, record_of("y"))

    def test_a_damaged_record(self):
        self.add_all()
        other = format_record(self.RECORDS[1])
        for line in ("", "a", "a 5 - 2", "a 5 - 1 ", other, "x" * 1000, "a 5 - 0"):
            with self.subTest(line=line):
                self.assertIsNone(self.store.damage_record(0, line))
                self.check_records(False, *self.RECORDS[1:])
                self.assertEqual(self.store.kept_records()[0], (row_of(self.RECORDS[0])[0], line))

    def test_a_damaged_record_that_is_made_whole(self):
        self.add_all()
        self.store.damage_record(1, "a 5 - 1")
        self.store.damage_record(1, format_record(self.RECORDS[1]))
        self.check_records(*self.RECORDS)

    def test_a_damaged_record_that_is_lost(self):
        self.add_all()
        self.store.damage_record(0, "x")
        self.store.lose_record(0)
        self.check_records(None, *self.RECORDS[1:])

    def test_indexes_that_there_are_not(self):
        self.add_all()
        for index in (-1, -4, 4, 5, 10 ** 9):
            self.check_error(NoSuchRecord, "lose_record", index)
            self.check_error(NoSuchRecord, "damage_record", index, "a 5 - 1")

    def test_a_line_with_its_key_that_is_no_record(self):
        for line in ("", "a", "a 5 - 0", "a,a 5 - 1,1"):
            self.store.fill_from({}, [(content_key(line), line)])
            self.check_records(False)


class TestFinding(StoreCase):
    def test_the_newest_come_first(self):
        for name in ("a", "b", "a", "a", "c"):
            self.store.add_record(record_of(name))
        self.assertEqual(self.store.find_records(("a",), 5), [3, 2, 0])
        self.assertEqual(self.store.find_records(("b",), 5), [1])
        self.assertEqual(self.store.find_records(("d",), 5), [])

    def test_needs_and_results_make_no_difference(self):
        self.store.add_record(record_of(result=1))
        self.store.add_record(record_of(result=2, needs=(("has", "b", True),)))
        self.assertEqual(self.store.find_records(("a",), 5), [1, 0])

    def test_the_rule_key_is_exactly_this_one(self):
        for rule_key in (5, 50, 55, 1, 15):
            self.store.add_record(record_of(rule_key=rule_key))
        self.assertEqual(self.store.find_records(("a",), 5), [0])
        self.assertEqual(self.store.find_records(("a",), 50), [1])
        self.assertEqual(self.store.find_records(("a",), 0), [])

    def test_the_outputs_are_exactly_these(self):
        self.store.add_record(Record(("a", "b"), 5, (), (1, 1)))
        self.store.add_record(Record(("b", "a"), 5, (), (1, 1)))
        self.store.add_record(Record(("a",), 5, (), (1,)))
        self.store.add_record(Record(("aa",), 5, (), (1,)))
        self.store.add_record(Record(("a", "b", "c"), 5, (), (1, 1, 1)))
        for index, outputs in enumerate([("a", "b"), ("b", "a"), ("a",), ("aa",), ("a", "b", "c")]):
            self.assertEqual(self.store.find_records(outputs, 5), [index])
        self.assertEqual(self.store.find_records(("b",), 5), [])

    def test_only_whole_records_are_found(self):
        for _ in range(4):
            self.store.add_record(record_of())
        self.store.lose_record(1)
        self.store.damage_record(2, "a 5 - 2")
        self.assertEqual(self.store.find_records(("a",), 5), [3, 0])
        self.store.damage_record(3, "x")
        self.assertEqual(self.store.find_records(("a",), 5), [0])
        self.store.damage_record(2, "a 5 - 1")
        self.assertEqual(self.store.find_records(("a",), 5), [2, 0])

    def test_a_record_is_found_by_what_it_is_not_by_what_it_was(self):
        self.store.add_record(record_of("a"))
        self.store.damage_record(0, "b 5 - 1")
        self.assertEqual(self.store.find_records(("a",), 5), [])
        self.assertEqual(self.store.find_records(("b",), 5), [])

    def test_a_kept_line_that_begins_well_and_is_no_record(self):
        line = "a 5 - 0"
        self.store.fill_from({}, [(content_key(line), line)])
        self.assertEqual(self.store.find_records(("a",), 5), [])

    def test_the_list_is_new(self):
        self.store.add_record(record_of())
        self.store.find_records(("a",), 5).append(7)
        self.assertEqual(self.store.find_records(("a",), 5), [0])


class TestKept(StoreCase):
    def test_what_is_kept(self):
        self.fill()
        self.assertEqual(self.store.kept_texts(), {KEY: "c", content_key("b"): "b"})
        self.assertEqual(self.store.kept_records(), [None, (row_of(record_of("b"))[0], "x"), row_of(record_of("c"))])

    def test_what_is_returned_is_new(self):
        self.fill()
        before = state(self.store)
        self.store.kept_texts()[KEY] = "x"
        self.store.kept_texts().clear()
        self.store.kept_records()[0] = (1, "")
        self.store.kept_records().clear()
        self.store.content_keys().clear()
        self.assertEqual(state(self.store), before)

    def test_a_store_is_filled_from_what_another_one_kept(self):
        self.fill()
        other = Store()
        other.put_content("old")
        other.add_record(record_of("old"))
        self.assertIsNone(other.fill_from(self.store.kept_texts(), self.store.kept_records()))
        self.assertEqual(state(other), state(self.store))
        self.assertEqual(other.add_record(record_of("d")), 3)
        self.assertEqual(other.find_records(("c",), 5), [2])
        self.assertEqual(self.store.record_count(), 3)

    def test_a_store_is_filled_with_nothing(self):
        self.fill()
        self.store.fill_from({}, [])
        self.assertEqual(state(self.store), ({}, [], 0, []))

    def test_what_a_store_is_filled_from_is_copied(self):
        texts, rows = {KEY: "a"}, [row_of(record_of()), None]
        self.store.fill_from(texts, rows)
        texts[KEY] = "b"
        texts[1] = ""
        rows.append(None)
        rows[0] = None
        self.assertEqual(state(self.store), ({KEY: "a"}, [row_of(record_of()), None], 2, [KEY]))
        self.store.put_content("z")
        self.store.add_record(record_of())
        self.assertEqual((len(texts), rows), (2, [None, None, None]))

    def test_filled_in_damages_are_found(self):
        self.store.fill_from({KEY: "b", 1: ""}, [(row_of(record_of())[0], "x"), (5, "a 5 - 1"), row_of(record_of())])
        self.check_missing(KEY)
        self.check_content("")
        self.check_records(False, False, record_of())


class TestTwins(StoreCase):
    def test_a_twin_keeps_the_same(self):
        self.fill()
        twin = self.store.twin()
        self.assertIsInstance(twin, Store)
        self.assertEqual(state(twin), state(self.store))
        self.assertEqual(twin.add_record(record_of("d")), 3)

    def test_neither_side_sees_what_is_done_to_the_other(self):
        for change in ("put_content", "lose_content", "damage_content", "add_record", "lose_record", "damage_record",
                       "fill_from"):
            arguments = {"put_content": ("z",), "lose_content": (KEY,), "damage_content": (KEY, "z"),
                         "add_record": (record_of("z"),), "lose_record": (2,), "damage_record": (2, "z"),
                         "fill_from": ({}, [])}[change]
            for changed in (0, 1):
                with self.subTest(change=change, changed=changed):
                    self.setUp()
                    self.fill()
                    stores = [self.store, self.store.twin()]
                    before = state(self.store)
                    getattr(stores[changed], change)(*arguments)
                    self.assertNotEqual(state(stores[changed]), before)
                    self.assertEqual(state(stores[1 - changed]), before)

    def test_a_twin_has_no_journal(self):
        book = Notebook()
        self.store = book.store = Store(book)
        self.store.put_content("a")
        twin = self.store.twin()
        self.assertIsNone(twin.journal)
        self.assertIs(self.store.journal, book)
        twin.put_content("b")
        twin.add_record(record_of())
        self.assertEqual(book.added, ["a"])


class TestJournals(StoreCase):
    def setUp(self):
        self.book = Notebook()
        self.store = self.book.store = Store(self.book)

    def test_contents_and_records_are_added_in_their_order(self):
        self.store.put_content("a")
        self.store.add_record(record_of("x"))
        self.store.put_content("")
        self.store.put_content(LONG)
        self.store.add_record(record_of("x"))
        self.assertEqual(self.book.added, ["a", "x 5 - 1", "", LONG, "x 5 - 1"])

    def test_a_content_that_is_kept_whole_is_not_added_again(self):
        self.store.put_content("a")
        self.store.put_content("a")
        self.assertEqual(self.book.added, ["a"])

    def test_a_content_that_was_lost_or_damaged_is_added_again(self):
        self.store.put_content("a")
        self.store.lose_content(KEY)
        self.store.put_content("a")
        self.assertEqual(self.book.added, ["a", "a"])
        self.store.damage_content(KEY, "b")
        self.store.put_content("a")
        self.assertEqual(self.book.added, ["a", "a", "a"])
        self.store.damage_content(KEY, "a")
        self.store.put_content("a")
        self.assertEqual(self.book.added, ["a", "a", "a"])

    def test_the_journal_comes_before_the_store(self):
        self.store.put_content("a")
        self.store.add_record(record_of())
        row = row_of(record_of())
        self.store.add_record(record_of())
        self.assertEqual(self.book.states, [({}, [], 0, []), ({KEY: "a"}, [], 0, [KEY]),
                                            ({KEY: "a"}, [row], 1, [KEY])])

    def test_loss_and_damage_are_not_written(self):
        self.store.put_content("a")
        self.store.add_record(record_of())
        self.store.damage_content(KEY, "b")
        self.store.lose_content(KEY)
        self.store.damage_record(0, "x")
        self.store.lose_record(0)
        self.assertEqual(len(self.book.added), 2)

    def test_filling_is_not_written(self):
        self.store.fill_from({KEY: "a"}, [row_of(record_of())])
        self.assertEqual(self.book.added, [])
        self.assertIs(self.store.journal, self.book)
        self.store.put_content("a")
        self.store.put_content("b")
        self.assertEqual(self.book.added, ["b"])

    def test_looking_writes_nothing(self):
        self.store.put_content("a")
        self.store.add_record(record_of())
        self.look()
        self.assertEqual(len(self.book.added), 2)


class TestLooking(StoreCase):
    def test_looking_changes_nothing(self):
        self.fill()
        before = state(self.store)
        self.look()
        self.assertEqual(state(self.store), before)

    def test_what_a_record_is_added_from_stays_as_it_is(self):
        record = record_of(needs=(("has", "b", True),))
        self.store.add_record(record)
        self.assertEqual(record, record_of(needs=(("has", "b", True),)))

    def test_a_damaged_record_raises_no_error_of_reading(self):
        self.store.add_record(record_of())
        self.store.damage_record(0, "x")
        with self.assertRaises(DamagedRecord) as caught:
            self.store.record(0)
        self.assertNotIsInstance(caught.exception, InvalidRecord)


if __name__ == "__main__":
    unittest.main()
