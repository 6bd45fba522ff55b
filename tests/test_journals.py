"""Points 150 to 154: journals, their lines, and the stores that are read from them."""

import unittest

from kilnyard.journals import Journal, content_line, read_journal, readable_length, record_line
from kilnyard.keys import content_key
from kilnyard.records import Record, format_record
from kilnyard.refusals import InvalidLength
from kilnyard.stores import Store

LONG = "x" * 400
TEXTS = ["", "a", "a b", "b\n", "\\", "\\n", "\n", "\\\n", "\n\\", "\\\\n", "a\\\\\nb\n\n", LONG, "\n" * 400,
         "\\" * 400, "content a", "9 content a", " ", "~!\"#$&'"]
RECORDS = [Record(("a",), 5, (), (1,)),
           Record(("c", "a/b"), 77, (("listing", "", "*.c", 1), ("file", "d", None), ("has", "e", True)),
                  (1, content_key(LONG)))]
LINES = [content_line(text) for text in TEXTS] + [record_line(record) for record in RECORDS]
WHOLE = "9 content a\n"


def state(store):
    """All that a store keeps."""
    return store.kept_texts(), store.kept_records()


def store_of(entries):
    """A store without a journal with these contents (strings) and records."""
    store = Store()
    for entry in entries:
        if isinstance(entry, str):
            store.put_content(entry)
        else:
            store.add_record(entry)
    return store


class TestLines(unittest.TestCase):
    def check(self, line, expected):
        self.assertEqual(line, expected)
        self.assertEqual(readable_length(line), len(line))

    def test_lines_of_contents(self):
        self.check(content_line("a"), "9 content a\n")
        self.check(content_line(""), "8 content \n")
        self.check(content_line("a b"), "11 content a b\n")
        self.check(content_line(LONG), "408 content " + LONG + "\n")

    def test_backslashes_and_newlines_are_escaped(self):
        self.check(content_line("a\nb"), "12 content a\\nb\n")
        self.check(content_line("a\\b"), "12 content a\\\\b\n")
        self.check(content_line("\\n"), "11 content \\\\n\n")
        self.check(content_line("\\\n"), "12 content \\\\\\n\n")
        self.check(content_line("\n" * 400), "808 content " + "\\n" * 400 + "\n")

    def test_lines_of_records(self):
        self.check(record_line(RECORDS[0]), "14 record a 5 - 1\n")
        body = "record " + format_record(RECORDS[1])
        self.check(record_line(RECORDS[1]), str(len(body)) + " " + body + "\n")


class TestJournal(unittest.TestCase):
    def test_an_empty_journal(self):
        self.assertEqual(Journal().text(), "")
        self.assertEqual(Journal("").text(), "")

    def test_a_journal_with_a_text(self):
        for text in (WHOLE, "anything\n", WHOLE + "cut o"):
            self.assertEqual(Journal(text).text(), text)
        self.assertEqual(Journal(text=WHOLE).text(), WHOLE)

    def test_lines_are_added_at_the_end(self):
        journal = Journal()
        self.assertIsNone(journal.add_content("a\n"))
        self.assertIsNone(journal.add_record(RECORDS[0]))
        self.assertIsNone(journal.add_content(""))
        self.assertEqual(journal.text(), "11 content a\\n\n14 record a 5 - 1\n8 content \n")

    def test_what_is_equal_is_added_again(self):
        journal = Journal(WHOLE)
        journal.add_content("a")
        journal.add_record(RECORDS[1])
        journal.add_record(RECORDS[1])
        self.assertEqual(journal.text(), WHOLE + WHOLE + record_line(RECORDS[1]) * 2)

    def test_lines_are_added_behind_what_is_not_readable(self):
        journal = Journal("9 cont")
        journal.add_content("a")
        self.assertEqual(journal.text(), "9 cont" + WHOLE)

    def test_journals_have_nothing_in_common(self):
        first, second = Journal(), Journal()
        first.add_content("a")
        self.assertEqual(second.text(), "")

    def test_cut(self):
        text = WHOLE + content_line("b")
        for length in (0, 1, len(WHOLE) - 1, len(WHOLE), len(WHOLE) + 1, len(text) - 1, len(text)):
            journal = Journal(text)
            self.assertIsNone(journal.cut(length))
            self.assertEqual(journal.text(), text[:length])

    def test_cut_of_an_empty_journal(self):
        journal = Journal()
        journal.cut(0)
        self.assertEqual(journal.text(), "")

    def test_cut_at_lengths_that_there_are_not(self):
        for text in ("", "a", WHOLE):
            for length in (-1, -len(text) - 1, len(text) + 1, len(text) + 100):
                with self.subTest(text=text, length=length):
                    journal = Journal(text)
                    with self.assertRaises(InvalidLength) as caught:
                        journal.cut(length)
                    self.assertEqual(caught.exception.length, length)
                    self.assertEqual(journal.text(), text)

    def test_a_journal_grows_again_after_a_cut(self):
        journal = Journal(WHOLE + WHOLE)
        journal.cut(len(WHOLE))
        journal.add_content("")
        self.assertEqual(journal.text(), WHOLE + "8 content \n")


class ReadingCase(unittest.TestCase):
    def check_length(self, text, length):
        """The readable part of a journal with this text has this length, alone and for `read_journal`."""
        with self.subTest(text=text[:200]):
            self.assertEqual(readable_length(text), length)
            journal = Journal(text)
            store = read_journal(journal)
            self.assertEqual(journal.text(), text[:length])
            self.assertIsInstance(store, Store)
            self.assertIs(store.journal, journal)
            return store

    def check_line(self, line):
        """The line is whole: alone, behind a whole line, and ahead of one."""
        self.check_length(line, len(line))
        self.check_length(WHOLE + line, len(WHOLE + line))
        self.check_length(line + WHOLE, len(line + WHOLE))

    def check_no_line(self, *lines):
        """None of these is a whole line, and each ends what is readable."""
        for line in lines:
            self.assertEqual(state(self.check_length(line, 0)), state(Store()))
            self.assertEqual(state(self.check_length(WHOLE + line, len(WHOLE))), state(store_of(["a"])))
            self.assertEqual(state(self.check_length(line + WHOLE, 0)), state(Store()))
            self.assertEqual(state(self.check_length(WHOLE + line + WHOLE, len(WHOLE))), state(store_of(["a"])))


class TestReadable(ReadingCase):
    def test_an_empty_journal(self):
        self.assertEqual(state(self.check_length("", 0)), state(Store()))

    def test_each_line_is_whole(self):
        for line in LINES:
            self.check_line(line)

    def test_many_lines(self):
        self.check_length("".join(LINES), len("".join(LINES)))

    def test_a_journal_that_ends_in_the_middle_of_a_line(self):
        for line in LINES:
            for end in list(range(min(len(line), 30))) + [len(line) - 2, len(line) - 1]:
                self.check_length(line[:end], 0)
                self.check_length(WHOLE + line[:end], len(WHOLE))

    def test_a_journal_that_is_cut_off_anywhere(self):
        text = "".join(LINES[:6] + LINES[-2:])
        ends = [len("".join((LINES[:6] + LINES[-2:])[:at])) for at in range(9)]
        for end in range(len(text) + 1):
            self.check_length(text[:end], max([at for at in ends if at <= end]))

    def test_wrong_lengths(self):
        self.check_no_line("8 content a\n", "10 content a\n", "0 content a\n", "1 content a\n", "11 content a\n")
        self.check_no_line("13 record a 5 - 1\n", "15 record a 5 - 1\n", "408 content " + "x" * 399 + "\n")

    def test_lengths_in_other_forms(self):
        self.check_no_line("09 content a\n", "+9 content a\n", "-9 content a\n", "9. content a\n", "0x9 content a\n",
                           " 9 content a\n", "9  content a\n", "9\tcontent a\n", "9content a\n", " content a\n",
                           "content a\n", "000000009 content a\n", "0000000009 content a\n", "nine content a\n",
                           "\u0669 content a\n", "9_0 content a\n", "9 \n", "9\n")

    def test_lines_without_a_body(self):
        self.check_no_line("\n", "0 \n", "0\n", " \n", "\n\n", "7 content\n", "6 record\n", "7 record \n")

    def test_other_words(self):
        self.check_no_line("9 Content a\n", "8 contentx\n", "9 conten  a\n", "10 contents a\n", "9 record  a\n",
                           "10 contenta a\n", "4 a 5 \n", "7 a 5 - 1\n", "9 CONTENT a\n",
                           "14 Record a 5 - 1\n", "14 record,a 5 - 1\n", "14 records 5 - 1\n")

    def test_a_line_that_goes_on_behind_a_newline(self):
        # The length counts the newline, but no escaped text contains one.
        self.check_no_line("11 content a\nb\n", "9 content \n\n", "15 record a 5 - \n1\n")

    def test_escapes_that_could_not_have_been_written(self):
        for escaped in ("\\", "a\\", "\\a", "\\N", "\\\\\\", "\\n\\", "\\\\\\a", "\\ n", "\\t", '\\"', "\\\\n\\"):
            self.check_no_line(str(len(escaped) + 8) + " content " + escaped + "\n")

    def test_characters_that_no_text_has(self):
        for sign in ("%", "\t", "\r", "\x00", "\x7f", "\u00e4", "\u2028", "\u0660"):
            self.check_no_line("10 content a" + sign + "\n", "9 content " + sign + "\n")

    def test_contents_have_at_most_400_characters(self):
        self.check_line("408 content " + LONG + "\n")
        self.check_no_line("409 content " + LONG + "x\n")
        self.check_line("808 content " + "\\n" * 400 + "\n")
        self.check_no_line("809 content " + "\\n" * 400 + "x\n", "810 content " + "\\n" * 401 + "\n")
        self.check_line("807 content " + "\\\\" * 399 + "x\n")

    def test_lines_that_are_no_record(self):
        for line in ("", "a", "a 5 - 0", "a 5 - 1 ", " a 5 - 1", "a,a 5 - 1,1", "a 05 - 1", "a 5  1", "A 5 - 1",
                     "a 5 file:b:0 1"):
            self.check_no_line(str(len(line) + 7) + " record " + line + "\n")

    def test_what_comes_behind_a_line_that_is_not_whole_has_no_effect(self):
        text = WHOLE + "9 content b\n" + "x\n" + "".join(LINES)
        store = self.check_length(text, len(WHOLE) * 2)
        self.assertEqual(state(store), state(store_of(["a", "b"])))


class TestReading(ReadingCase):
    def test_contents_and_records_are_read_back(self):
        for text in TEXTS:
            self.assertEqual(state(read_journal(Journal(content_line(text)))), state(store_of([text])))
        for record in RECORDS:
            store = read_journal(Journal(record_line(record)))
            self.assertEqual(state(store), state(store_of([record])))
            self.assertEqual(store.record(0), record)

    def test_the_order_of_the_lines(self):
        entries = [RECORDS[1], "b", RECORDS[0], "a", RECORDS[1]]
        journal = Journal()
        for entry in entries:
            (journal.add_content if isinstance(entry, str) else journal.add_record)(entry)
        store = read_journal(journal)
        self.assertEqual(state(store), state(store_of(entries)))
        self.assertEqual([store.record(index) for index in range(3)], [RECORDS[1], RECORDS[0], RECORDS[1]])

    def test_a_content_that_stands_twice(self):
        store = read_journal(Journal(WHOLE + WHOLE))
        self.assertEqual(store.kept_texts(), {content_key("a"): "a"})
        self.assertEqual(store.journal.text(), WHOLE + WHOLE)

    def test_the_journal_of_a_store_gives_the_store_again(self):
        journal = Journal()
        store = Store(journal)
        for text in TEXTS:
            store.put_content(text)
        for record in RECORDS + RECORDS[:1]:
            store.add_record(record)
        before = journal.text()
        again = read_journal(journal)
        self.assertEqual(state(again), state(store))
        self.assertEqual(journal.text(), before)
        self.assertIsNot(again, store)

    def test_what_was_lost_is_there_again(self):
        journal = Journal()
        store = Store(journal)
        store.put_content("a")
        store.add_record(RECORDS[0])
        store.lose_content(content_key("a"))
        store.damage_record(0, "x")
        again = read_journal(journal)
        self.assertEqual(again.content(content_key("a")), "a")
        self.assertEqual(again.record(0), RECORDS[0])

    def test_the_journal_is_cut_off(self):
        journal = Journal(WHOLE + record_line(RECORDS[0]) + "9 conte")
        store = read_journal(journal)
        self.assertEqual(journal.text(), WHOLE + record_line(RECORDS[0]))
        self.assertEqual(state(store), state(store_of(["a", RECORDS[0]])))

    def test_the_store_goes_on_with_the_journal(self):
        journal = Journal(WHOLE + "9 con")
        store = read_journal(journal)
        store.put_content("a")
        self.assertEqual(journal.text(), WHOLE)
        store.put_content("b")
        store.add_record(RECORDS[0])
        self.assertEqual(journal.text(), WHOLE + content_line("b") + record_line(RECORDS[0]))
        self.assertEqual(state(read_journal(journal)), state(store))

    def test_a_journal_that_is_read_twice(self):
        journal = Journal("".join(LINES))
        first, second = read_journal(journal), read_journal(journal)
        self.assertEqual(state(first), state(second))
        first.lose_record(0)
        self.assertEqual(second.record(0), RECORDS[0])

    def test_looking_changes_nothing(self):
        text = WHOLE + "9 con"
        journal = Journal(text)
        self.assertEqual(readable_length(journal.text()), len(WHOLE))
        self.assertEqual(journal.text(), text)


if __name__ == "__main__":
    unittest.main()
