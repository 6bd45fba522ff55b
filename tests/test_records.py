"""Points 80 to 84: needs, records and their written forms."""

import unittest

from kilnyard.errors import Held
from kilnyard.keys import content_key
from kilnyard.records import Record, first_change, format_record, parse_record, question
from kilnyard.refusals import InvalidRecord
from kilnyard.targets import Job

LONGEST = 10 ** 4000 - 1

# Each kind of need with each kind of answer, and its written form.
NEEDS = [
    (("file", "a/b", 193), "file:a/b:193"),
    (("file", "a", 1), "file:a:1"),
    (("file", "c_1.x", None), "file:c_1.x:-"),
    (("has", "a", True), "has:a:yes"),
    (("has", "b", False), "has:b:no"),
    (("listing", "d/e", "*.c", 20), "listing:d/e:*.c:20"),
    (("listing", "", "*", 1), "listing::*:1"),
    (("setting", "mode_2", 5), "setting:mode_2:5"),
    (("setting", "mode", None), "setting:mode:-"),
    (("link", "l", 77), "link:l:77"),
    (("link", "a/b/c/d", None), "link:a/b/c/d:-"),
]


def settings(count):
    """So many needs, and their written forms."""
    return tuple([("setting", "s" + str(at), at + 1) for at in range(count)]), [f"setting:s{at}:{at + 1}"
                                                                               for at in range(count)]


class Scripted:
    """A view with an answer for each question: a value, or the job at which it is held."""

    def __init__(self, answers):
        self.answers = answers
        self.asked = []

    def see(self, asked):
        self.asked.append(asked)
        if isinstance(self.answers[asked], Job):
            raise Held(self.answers[asked])
        return self.answers[asked]


class TestRecord(unittest.TestCase):
    def test_attributes(self):
        needs = (("has", "c", True),)
        record = Record(("a", "b"), 7, needs, (1, 2))
        self.assertEqual((record.outputs, record.rule_key, record.needs, record.results),
                         (("a", "b"), 7, needs, (1, 2)))

    def test_records_are_equal_if_all_attributes_are(self):
        record = Record(("a",), 7, (("has", "c", True),), (1,))
        self.assertEqual(record, Record(("a",), 7, (("has", "c", True),), (1,)))
        self.assertFalse(record != Record(("a",), 7, (("has", "c", True),), (1,)))
        for other in (Record(("b",), 7, (("has", "c", True),), (1,)), Record(("a",), 8, (("has", "c", True),), (1,)),
                      Record(("a",), 7, (("has", "c", False),), (1,)), Record(("a",), 7, (), (1,)),
                      Record(("a",), 7, (("has", "c", True),), (2,)), None, "a 7 has:c:yes 1"):
            self.assertNotEqual(record, other)

    def test_the_order_of_needs_counts(self):
        one, other = ("has", "c", True), ("has", "d", True)
        self.assertNotEqual(Record(("a",), 7, (one, other), (1,)), Record(("a",), 7, (other, one), (1,)))


class TestQuestion(unittest.TestCase):
    def test_the_question_is_the_need_without_its_last_item(self):
        for need, _ in NEEDS:
            with self.subTest(need=need):
                self.assertEqual(question(need) + (need[-1],), need)
        self.assertEqual(question(("file", "a/b", 193)), ("file", "a/b"))
        self.assertEqual(question(("has", "a", True)), ("has", "a"))
        self.assertEqual(question(("listing", "", "*", 1)), ("listing", "", "*"))
        self.assertEqual(question(("setting", "mode", None)), ("setting", "mode"))
        self.assertEqual(question(("link", "l", 77)), ("link", "l"))


class FormCase(unittest.TestCase):
    def check(self, record, line):
        """The line is the written form of the record, and is read as this record."""
        with self.subTest(line=line):
            self.assertEqual(format_record(record), line)
            found = parse_record(line)
            self.assertIsInstance(found, Record)
            self.assertEqual(found, record)
            self.assertEqual(repr((found.outputs, found.rule_key, found.needs, found.results)),
                             repr((record.outputs, record.rule_key, record.needs, record.results)))

    def check_invalid(self, line):
        with self.subTest(line=line[:100]):
            with self.assertRaises(InvalidRecord) as caught:
                parse_record(line)
            self.assertEqual(caught.exception.line, line)


class TestForms(FormCase):
    def test_a_record_without_needs(self):
        self.check(Record(("a",), 5, (), (1,)), "a 5 - 1")

    def test_each_need(self):
        for need, written in NEEDS:
            self.check(Record(("a",), 5, (need,), (1,)), f"a 5 {written} 1")

    def test_several_needs_keep_their_order(self):
        self.check(Record(("a",), 5, tuple([need for need, _ in NEEDS]), (1,)),
                   "a 5 " + ";".join([written for _, written in NEEDS]) + " 1")
        self.check(Record(("a",), 5, tuple([need for need, _ in NEEDS[::-1]]), (1,)),
                   "a 5 " + ";".join([written for _, written in NEEDS[::-1]]) + " 1")

    def test_several_outputs_keep_their_order(self):
        self.check(Record(("b", "a/c"), 5, (), (9, 8)), "b,a/c 5 - 9,8")
        self.check(Record(("c", "b", "a"), 5, (), (7, 7, 6)), "c,b,a 5 - 7,7,6")

    def test_the_same_path_may_be_asked_in_several_ways(self):
        needs = (("link", "a", None), ("file", "a", 3), ("has", "a", True))
        self.check(Record(("a",), 5, needs, (1,)), "a 5 link:a:-;file:a:3;has:a:yes 1")
        needs = (("listing", "d", "*", 3), ("listing", "", "*", 4), ("listing", "d", "a*", 3), ("link", "d", 5))
        self.check(Record(("a",), 5, needs, (1,)), "a 5 listing:d:*:3;listing::*:4;listing:d:a*:3;link:d:5 1")

    def test_keys_of_texts(self):
        for text in ("", "A", "x" * 400, "a\nb"):
            key = content_key(text)
            self.check(Record(("a",), key, (("file", "b", key),), (key,)), f"a {key} file:b:{key} {key}")

    def test_the_key_of_the_empty_text_is_not_taken_for_true(self):
        self.check(Record(("a",), 1, (("file", "b", 1), ("has", "b", True)), (1,)), "a 1 file:b:1;has:b:yes 1")

    def test_numbers_that_are_the_key_of_no_text(self):
        self.check(Record(("a",), 2, (("file", "b", 3), ("link", "b", 128 * 128 - 1)), (127,)),
                   "a 2 file:b:3;link:b:16383 127")

    def test_the_longest_keys(self):
        nines = "9" * 4000
        self.check(Record(("a",), LONGEST, (("file", "b", LONGEST),), (LONGEST,)), f"a {nines} file:b:{nines} {nines}")

    def test_60_needs(self):
        needs, words = settings(60)
        self.check(Record(("a",), 5, needs, (1,)), "a 5 " + ";".join(words) + " 1")


class TestInvalidForms(FormCase):
    def check_word(self, at, *wrong):
        """The line is not read if its word at this place is one of the wrong ones."""
        for word in wrong:
            words = ["a", "5", "has:b:yes", "1"]
            words[at] = word
            self.check_invalid(" ".join(words))

    def check_needs(self, *wrong):
        """None of these is read as a need, neither alone nor among others."""
        for word in wrong:
            self.check_word(2, word, f"has:a:yes;{word}", f"{word};has:z:no")

    def test_numbers_of_words(self):
        for line in ("", "a", "a 5", "a 5 -", "a 5 - 1 ", " a 5 - 1", "a  5 - 1", "a 5 - 1 1", "a 5  1", "a5-1", "    "):
            self.check_invalid(line)

    def test_other_spaces(self):
        for line in ("a\t5 - 1", "a 5 - 1\n", "\na 5 - 1", "a 5\n- 1", "a 5 - 1\r"):
            self.check_invalid(line)

    def test_outputs_that_are_no_paths(self):
        self.check_word(0, "", "A", "*", "a/", "/a", "a//b", ".a", "a/b/c/d/e", "x" * 13, "a:b", "a;b", "-" + "a")

    def test_lists_of_outputs(self):
        for outputs in (",a", "a,", "a,,b", ",", "a,B"):
            self.check_invalid(f"{outputs} 5 - 1")
            self.check_invalid(f"{outputs} 5 - 1,1")
            self.check_invalid(f"{outputs} 5 - 1,1,1")

    def test_more_than_three_outputs(self):
        self.check_invalid("a,b,c,d 5 - 1,1,1,1")
        self.check_invalid("a,b,c,d 5 - 1,1,1")

    def test_an_output_that_occurs_twice(self):
        self.check_invalid("a,a 5 - 1,1")
        self.check_invalid("a,b,a 5 - 1,1,1")

    WRONG_NUMBERS = ("", "0", "00", "05", "+5", "-5", "-", "5.0", "5e1", "0x5", "five", "5_0", "1,", "yes", "no",
                     "\u0665", "\u00b2", "5\u0665", "9" * 4001, "1" + "0" * 4000)

    def test_rule_keys_that_are_no_numbers(self):
        self.check_word(1, *self.WRONG_NUMBERS)
        self.check_word(1, "5,5", "5;5", "5:5")

    def test_results_that_are_no_numbers(self):
        self.check_word(3, *self.WRONG_NUMBERS)
        for number in self.WRONG_NUMBERS:
            self.check_invalid(f"a,b 5 - {number},1")
            self.check_invalid(f"a,b 5 - 1,{number}")

    def test_other_numbers_of_results_than_outputs(self):
        for line in ("a 5 - 1,1", "a,b 5 - 1", "a,b 5 - 1,1,1", "a,b,c 5 - 1,1", "a 5 - ,1", "a 5 - 1;1"):
            self.check_invalid(line)

    def test_keys_in_needs_that_are_no_numbers(self):
        for number in self.WRONG_NUMBERS:
            self.check_needs(f"listing:d:*:{number}")
            if number != "-":
                self.check_needs(f"file:b:{number}", f"setting:s:{number}", f"link:b:{number}")

    def test_answers_of_the_wrong_kind(self):
        self.check_needs("has:b:-", "has:b:1", "has:b:", "has:b:Yes", "has:b:true", "has:b:yes ", "has:b:noo")

    def test_a_listing_that_was_seen_as_nothing(self):
        self.check_needs("listing:d:*:-", "listing::*:-")

    def test_needs_of_no_kind(self):
        self.check_needs("", ":", "::", ":b:1", "files:b:1", "File:b:1", "b:1", "file", "read:b:1", "has-b-yes")

    def test_other_numbers_of_items(self):
        self.check_needs("file:b", "file:b:1:1", "file:1", "file::b:1", "has:yes", "has:b:yes:yes", "setting:1",
                         "setting:s:s:1", "link:b", "link:b:c:1", "listing:*:1", "listing:d:*", "listing:d:d:*:1",
                         "listing:d:*:1:1", "listing:1")

    def test_lists_of_needs(self):
        for needs in (";", "has:b:yes;", ";has:b:yes", "has:b:yes;;has:c:no", "-;has:b:yes", "has:b:yes;-", "--"):
            self.check_word(2, needs)

    def test_paths_in_needs(self):
        for path in ("", "A", "*", "a/", "/a", ".a", "x" * 13, "a/b/c/d/e", "a,b"):
            self.check_needs(f"file:{path}:1", f"has:{path}:yes", f"link:{path}:1")

    def test_directories_and_patterns_of_listings(self):
        for folder in ("A", "*", "d/", "/", "/d", ".", "x" * 13, "a/b/c/d/e", "-"):
            self.check_needs(f"listing:{folder}:*:1")
        for pattern in ("", "a", "**", "a*b*", "d/*", "*/a", "A*", ".*", "x" * 12 + "*", "-"):
            self.check_needs(f"listing:d:{pattern}:1")

    def test_names_of_settings(self):
        for name in ("", "A", "1a", "_a", "a.b", "a/b", "x" * 13, "*", "-"):
            self.check_needs(f"setting:{name}:1", f"setting:{name}:-")

    def test_a_question_that_occurs_twice(self):
        for needs in ("file:b:1;file:b:1", "file:b:1;file:b:2", "file:b:1;has:b:yes;file:b:-", "has:b:yes;has:b:no",
                      "listing:d:*:1;listing:d:*:2", "setting:s:1;setting:s:-", "link:b:1;link:b:-",
                      "listing::*:1;listing::*:1"):
            self.check_word(2, needs)

    def test_more_than_60_needs(self):
        _, words = settings(61)
        self.check_word(2, ";".join(words))

    def test_written_forms_with_one_character_more_or_less(self):
        line = "ab,c 15 file:b:10;listing::a*:12;has:q:no;setting:s:- 11,14"
        record = parse_record(line)
        self.assertEqual(format_record(record), line)
        for at in range(len(line) + 1):
            for sign in (" ", ",", ";", ":", "-", "0", "A", "\n", "~"):
                for other in (line[:at] + sign + line[at:], line[:at] + line[at + 1:]):
                    try:
                        self.assertEqual(format_record(parse_record(other)), other)
                    except InvalidRecord as error:
                        self.assertEqual(error.line, other)


class TestFirstChange(unittest.TestCase):
    NEEDS = (("link", "b", None), ("file", "b", 193), ("has", "c", True), ("has", "d", False),
             ("listing", "", "*", 1), ("setting", "s", None), ("setting", "t", 5), ("file", "e", None))

    def setUp(self):
        self.record = Record(("a",), 5, self.NEEDS, (1,))
        self.answers = {need[:-1]: need[-1] for need in self.NEEDS}

    def check(self, expected):
        view = Scripted(self.answers)
        self.assertEqual(first_change(self.record, view), expected)
        asked = self.NEEDS if expected is None else self.NEEDS[:expected + 1]
        self.assertEqual(view.asked, [need[:-1] for need in asked])

    def test_nothing_changed(self):
        self.check(None)

    def test_a_record_without_needs(self):
        view = Scripted({})
        self.assertIsNone(first_change(Record(("a",), 5, (), (1,)), view))
        self.assertEqual(view.asked, [])

    def test_each_need_changed_alone(self):
        for at, need in enumerate(self.NEEDS):
            others = (not need[-1],) if isinstance(need[-1], bool) else (None, 1, 7)
            for other in [other for other in others if other != need[-1]]:
                with self.subTest(need=need, seen=other):
                    self.setUp()
                    self.answers[need[:-1]] = other
                    self.check(at)

    def test_no_need_is_asked_after_the_first_change(self):
        for at in range(len(self.NEEDS)):
            self.answers = {need[:-1]: need[-1] for need in self.NEEDS[:at]}
            self.answers[self.NEEDS[at][:-1]] = not self.NEEDS[at][-1]
            self.check(at)

    def test_held(self):
        job = Job(0, "", ("b",), ())
        self.answers[("has", "c")] = job
        view = Scripted(self.answers)
        with self.assertRaises(Held) as caught:
            first_change(self.record, view)
        self.assertIs(caught.exception.job, job)
        self.assertEqual(view.asked, [("link", "b"), ("file", "b"), ("has", "c")])

    def test_a_change_ahead_of_a_held_question(self):
        self.answers[("file", "b")] = 194
        self.answers[("has", "c")] = Job(0, "", ("b",), ())
        self.check(1)

    def test_the_record_stays_as_it_is(self):
        first_change(self.record, Scripted(self.answers))
        self.assertEqual(self.record, Record(("a",), 5, self.NEEDS, (1,)))


if __name__ == "__main__":
    unittest.main()
