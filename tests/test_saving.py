"""Points 210 to 214: saving and loading."""

import random
import unittest

from kilnyard.errors import BuildError
from kilnyard.journals import Journal
from kilnyard.keys import content_key
from kilnyard.records import Record
from kilnyard.saving import InvalidSave, load_settings, load_store, load_tree, save_settings, save_store, save_tree
from kilnyard.stores import Store
from kilnyard.trees import Tree
from tests.helpers import Yard, joins, kept

TEXTS = ("", "a", " ", "\n", "\\", '"', "\\n", '"\n\\', "a b", "\n\n", "n" * 400, "\\" * 400, "~", "'#(),+",
         "\\\\", "\\\"")


class SavingCase(unittest.TestCase):
    def check_invalid(self, load, text, line):
        with self.assertRaises(InvalidSave) as caught:
            load(text)
        self.assertEqual(caught.exception.line, line, text)
        self.assertIsInstance(caught.exception, BuildError)

    def check_lines(self, load, save, good, bad, before=(), behind=()):
        """Each of the good lines is a saved form, and each of the bad ones has an error at each place."""
        for line in good:
            text = "\n".join([*before, line, *behind])
            self.assertEqual(save(load(text)), text)
        for line in bad:
            self.check_invalid(load, "\n".join([*before, line, *behind]), len(before) + 1)


class TestTrees(SavingCase):
    def check(self, tree, text):
        """The tree has this saved form, from which an equal tree is loaded."""
        before = dict(tree.entries)
        self.assertEqual(save_tree(tree), text)
        self.assertEqual(tree.entries, before)
        loaded = load_tree(text)
        self.assertIsInstance(loaded, Tree)
        self.assertEqual(loaded.entries, before)
        self.assertEqual(save_tree(loaded), text)

    def test_an_empty_tree(self):
        self.check(Tree(), "")

    def test_files_and_links(self):
        tree = Tree()
        tree.write("b", 'x\n"\\', "person")
        tree.write("a/b", "", "build")
        tree.link("c", "d/e")
        tree.write("a", "1", "build")
        self.check(tree, 'file a build "1"\nfile a/b build ""\nfile b person "x\\n\\"\\\\"\nlink c d/e')

    def test_all_kinds_of_contents(self):
        for text in TEXTS:
            for by in ("person", "build"):
                tree = Tree()
                tree.write("a", text, by)
                self.assertEqual(load_tree(save_tree(tree)).entries, tree.entries)
                self.assertEqual(len(save_tree(tree).split("\n")), 1)

    def test_lines_that_are_none(self):
        self.check_lines(load_tree, save_tree, ['file b person ""', 'file b build "x"', "link b b"], [
            "", " ", "#", "file", "file b", "file b person", 'file b ""', "file b person x", 'file b other ""',
            'file b Person ""', 'file b person "" ""', 'file b person ""  ', ' file b person ""', 'file  b person ""',
            'file B person ""', 'file * person ""', 'file "b" person ""', 'file b "person" ""', '"file" b person ""',
            'file b person""', 'file b person "', 'file b person "\\x"', 'file b person "\t"', 'file b person "%"',
            'file b person "' + "x" * 401 + '"', "file b person '' ", 'File b person ""', 'files b person ""',
            'link b', "link b B", "link B b", "link b b b", 'link b "b"', "link  b b", "link b b ", "link b *",
            'link b person ""', "file b b", "# link b b", 'file b person "" # x', 'file b+c person ""',
            'file b/ person ""', 'file b person "\u00e9"', 'dir b person ""',
        ], ['file a build ""'], ["link c c"])

    def test_a_link_to_a_path_that_is_a_word_of_files(self):
        tree = Tree()
        tree.link("file", "person")
        tree.link("link", "build")
        self.check(tree, "link file person\nlink link build")

    def test_the_order(self):
        lines = ['file a build ""', "link a.b a", 'file a/b person ""', "link a_ b", "link b b"]
        self.assertEqual(save_tree(load_tree("\n".join(lines))), "\n".join(lines))
        for at in range(4):
            swapped = lines[:at] + [lines[at + 1], lines[at]] + lines[at + 2:]
            self.check_invalid(load_tree, "\n".join(swapped), at + 2)
            twice = lines[:at + 1] + lines[at:]
            self.check_invalid(load_tree, "\n".join(twice), at + 2)
        self.check_invalid(load_tree, 'link a b\nfile a person ""', 2)

    def test_newlines_at_the_ends(self):
        self.check_invalid(load_tree, "link a b\n", 2)
        self.check_invalid(load_tree, "\nlink a b", 1)
        self.check_invalid(load_tree, "\n", 1)
        self.check_invalid(load_tree, "link a b\n\nlink c b", 2)
        self.check_invalid(load_tree, "link a b\r\nlink c b", 1)

    def test_the_first_error_is_told(self):
        self.check_invalid(load_tree, "link a b\nlink c B\nlink b b\nx", 2)

    def test_sixty_persons_entries(self):
        lines = [f'file a{at:02} person ""' if at % 2 else f"link a{at:02} b" for at in range(60)]
        built = [f'file b{at:02} build ""' for at in range(80)]
        text = "\n".join(lines + built)
        self.assertEqual(save_tree(load_tree(text)), text)
        for line in ('file c person ""', "link c b"):
            self.check_invalid(load_tree, "\n".join(lines + built + [line]), 141)
            self.check_invalid(load_tree, "\n".join(lines + [line]), 61)
        text = "\n".join(lines + ['file c build ""'])
        self.assertEqual(save_tree(load_tree(text)), text)

    def test_a_loaded_tree_is_new(self):
        one, other = load_tree("link a b"), load_tree("link a b")
        one.erase("a")
        self.assertEqual(other.target("a"), "b")


class TestSettings(SavingCase):
    def check(self, settings, text):
        before = dict(settings)
        self.assertEqual(save_settings(settings), text)
        self.assertEqual(settings, before)
        self.assertEqual(load_settings(text), before)

    def test_settings(self):
        self.check({}, "")
        self.check({"mode": "1"}, 'setting mode "1"')
        self.check({"b": 'x\n"\\', "a_1": "", "a1": " "}, 'setting a1 " "\nsetting a_1 ""\nsetting b "x\\n\\"\\\\"')

    def test_all_kinds_of_texts(self):
        for text in TEXTS:
            self.assertEqual(load_settings(save_settings({"a": text})), {"a": text})

    def test_lines_that_are_none(self):
        self.check_lines(load_settings, save_settings, ['setting b ""', 'setting b "x y"'], [
            "", "setting", "setting b", "setting b b", 'setting B ""', 'setting "b" ""', 'setting b "" ""',
            'setting b ""  ', 'setting  b ""', ' setting b ""', 'set b ""', 'setting b "%"', 'setting b "\\a"',
            'setting b "' + "x" * 401 + '"', 'setting b.c ""', 'setting _b ""', 'setting b"" ', 'setting b "',
            'setting ' + "b" * 13 + ' ""', '"setting" b ""', "# setting", 'Setting b ""'],
            ['setting a ""'], ['setting c ""'])

    def test_the_order(self):
        self.check_invalid(load_settings, 'setting b ""\nsetting a ""', 2)
        self.check_invalid(load_settings, 'setting b ""\nsetting b "1"', 2)
        self.check_invalid(load_settings, 'setting a ""\nsetting c ""\nsetting b ""', 3)
        self.check_invalid(load_settings, 'setting a ""\n', 2)

    def test_loaded_settings_are_new(self):
        load_settings('setting a ""').clear()
        self.assertEqual(load_settings('setting a ""'), {"a": ""})


class TestStores(SavingCase):
    def check(self, store, text=None):
        """The store has this saved form, from which a store is loaded that keeps the same."""
        before = kept(store)
        saved = save_store(store)
        if text is not None:
            self.assertEqual(saved, text)
        self.assertEqual(kept(store), before)
        loaded = load_store(saved)
        self.assertIsInstance(loaded, Store)
        self.assertIsNone(loaded.journal)
        self.assertEqual(kept(loaded), before)
        self.assertEqual(loaded.record_count(), store.record_count())
        self.assertEqual(save_store(loaded), saved)
        return loaded

    def test_an_empty_store(self):
        self.check(Store(), "records 0")

    def test_contents_and_records(self):
        store = Store(Journal())
        for text in ("b", "", "\n", "aa", "\\"):
            store.put_content(text)
        store.add_record(Record(("a",), 5, (("has", "b", True),), (1,)))
        store.add_record(Record(("a", "b"), 6, (), (1, 2)))
        self.check(store, 'content "" ""\ncontent "\\n" "\\n"\ncontent "\\\\" "\\\\"\ncontent "b" "b"\n'
                          'content "aa" "aa"\nrecord 0 "a 5 has:b:yes 1" "a 5 has:b:yes 1"\n'
                          'record 1 "a,b 6 - 1,2" "a,b 6 - 1,2"\nrecords 2')

    def test_losses_and_damages(self):
        store = Store()
        for text in ("1", "2", "3"):
            store.put_content(text)
            store.add_record(Record((f"a{text}",), 5, (), (1,)))
        store.lose_content(content_key("1"))
        store.damage_content(content_key("2"), "x" * 1000)
        store.lose_record(0)
        store.damage_record(1, '\\ "')
        store.lose_record(2)
        loaded = self.check(store, 'content "2" "' + "x" * 1000 + '"\ncontent "3" "3"\n'
                                   'record 1 "a2 5 - 1" "\\\\ \\""\nrecords 3')
        loaded.damage_content(content_key("2"), "2")
        loaded.damage_record(1, "a2 5 - 1")
        self.assertTrue(loaded.has_content(content_key("2")))
        self.assertEqual(loaded.find_records(("a2",), 5), [1])
        self.assertEqual(loaded.add_record(Record(("a",), 5, (), (1,))), 3)

    def test_a_store_in_which_all_is_lost(self):
        store = Store()
        store.put_content("a")
        for _ in range(12):
            store.add_record(Record(("a",), 5, (), (1,)))
        store.lose_content(content_key("a"))
        for index in range(12):
            store.lose_record(index)
        self.check(store, "records 12")

    def test_all_kinds_of_texts(self):
        for text in TEXTS + ("x" * 401, "\n" * 900):
            store = Store()
            store.fill_from({content_key(text): text, content_key("z"): text}, [(content_key(text), "y")])
            self.check(store)

    def test_a_store_of_builds(self):
        yard = Yard(joins("a : b", "b : s"), {"s": '\\"\n'})
        yard.made("a")
        loaded = self.check(yard.store)
        yard.store = loaded
        self.assertEqual(yard.build("a").outcome(), "done")

    def test_lines_that_are_none(self):
        good = ['content "b" "b"', 'content "b" ""', 'content "b" "\\n"']
        both = ['content "" ""', 'content "aa" ""', "records 0"]
        bad = ["", " ", "content", 'content "b"', 'content "b" b', 'content b "b"', 'content "b" "b" "b"',
               'content  "b" "b"', 'content "b" "b" ', ' content "b" "b"', 'content "b""b"', 'content "b" "%"',
               'content "%" "b"', 'content "b" "\\x"', 'content "b" "', 'Content "b" "b"', '"content" "b" "b"', "#",
               'content "\t" "b"', 'content "b" "\u00e9"', 'content 0 "b" "b"', 'contents "b" "b"']
        self.check_lines(load_store, save_store, good, bad, both[:1], both[1:])
        good = ['record 1 "a" "a"', 'record 5 "b" ""', 'record 9 "" "\\\\"', 'record 3 "\\n" "x"']
        both = ['record 0 "" ""', 'record 10 "" ""', "records 11"]
        bad = ["", 'record 1 "a"', 'record "a" "a"', 'record 01 "a" "a"', 'record -1 "a" "a"', 'record +1 "a" "a"',
               'record 1 "a" "a" "a"', 'record  1 "a" "a"', 'record "1" "a" "a"', 'record x "a" "a"',
               'record 00001 "a" "a"', 'record 1 a "a"', 'record 1 "a" a', 'record 1 "%" "a"', 'record 1 "a" "%"',
               'record None "a" "a"', 'record \u0661 "a" "a"', 'record 1 "a" "a" ', 'record 1.0 "a" "a"',
               'record \u00b2 "a" "a"', 'record 10000 "a" "a"', 'record 0 "a" "a"', 'record 1_0 "a" "a"']
        self.check_lines(load_store, save_store, good, bad, both[:1], both[1:])
        good = ["records 0", "records 1", "records 9999", "records 10"]
        bad = ["", "records", "records -0", "records 00", "records 01", "records 10000", "records x", 'records "0"',
               "records 0 0", " records 0", "records 0 ", "records  0", "record 0", "Records 0", "records None",
               "records \u0661", "records \u00b2", "records +1", "# records 0"]
        self.check_lines(load_store, save_store, good, bad)

    def test_the_order_of_contents_is_that_of_the_keys(self):
        lines = ['content "" ""', 'content "b" ""', 'content "c" ""', 'content "aa" ""', 'content "ab" ""', "records 0"]
        self.assertEqual(save_store(load_store("\n".join(lines))), "\n".join(lines))
        for at in range(4):
            swapped = lines[:at] + [lines[at + 1], lines[at]] + lines[at + 2:]
            self.check_invalid(load_store, "\n".join(swapped), at + 2)
            self.check_invalid(load_store, "\n".join(lines[:at + 1] + lines[at:]), at + 2)
        self.check_invalid(load_store, 'content "a" "1"\ncontent "a" "2"\nrecords 0', 2)

    def test_the_order_of_records(self):
        lines = ['record 2 "a" "a"', 'record 3 "a" "b"', 'record 10 "" ""', "records 11"]
        self.assertEqual(save_store(load_store("\n".join(lines))), "\n".join(lines))
        for at in range(2):
            swapped = lines[:at] + [lines[at + 1], lines[at]] + lines[at + 2:]
            self.check_invalid(load_store, "\n".join(swapped), at + 2)
            self.check_invalid(load_store, "\n".join(lines[:at + 1] + lines[at:]), at + 2)

    def test_contents_records_and_their_count_in_this_order(self):
        content, record, count = 'content "a" ""', 'record 0 "a" "a"', "records 1"
        self.assertEqual(load_store("\n".join([content, record, count])).record_count(), 1)
        self.check_invalid(load_store, "\n".join([record, content, count]), 2)
        self.check_invalid(load_store, "\n".join([content, count, record]), 3)
        self.check_invalid(load_store, "\n".join([count, content, record]), 2)
        self.check_invalid(load_store, "\n".join([content, record, count, count]), 4)
        self.check_invalid(load_store, "\n".join([content, record, count, ""]), 4)
        self.check_invalid(load_store, "\n".join([content, record, count, "x"]), 4)
        self.check_invalid(load_store, "\n".join([record, content, "x"]), 2)

    def test_a_count_that_is_missing(self):
        self.check_invalid(load_store, "", 1)
        self.check_invalid(load_store, 'content "a" ""', 2)
        self.check_invalid(load_store, 'content "a" ""\nrecord 0 "" ""', 3)
        self.check_invalid(load_store, 'content "a" ""\nrecord 0 "" ""\n', 3)

    def test_indexes_that_are_not_less_than_the_count(self):
        for index, count, good in ((0, 0, False), (0, 1, True), (5, 5, False), (5, 6, True), (9998, 9999, True),
                                   (9999, 9999, False), (3, 0, False)):
            text = f'record {index} "" ""\nrecords {count}'
            if good:
                self.assertEqual(save_store(load_store(text)), text)
            else:
                self.check_invalid(load_store, text, 2)
        self.check_invalid(load_store, 'record 0 "" ""\nrecord 7 "" ""\nrecords 7', 3)

    def test_a_large_count(self):
        store = load_store("records 9999")
        self.assertEqual((store.record_count(), save_store(store)), (9999, "records 9999"))
        self.assertEqual(store.add_record(Record(("a",), 5, (), (1,))), 9999)


class TestChangedSaves(SavingCase):
    def test_what_is_loaded_has_exactly_this_saved_form(self):
        """A saved form with a changed character is refused, or is the saved form of what is loaded."""
        rng = random.Random(3)
        tree, store = Tree(), Store()
        tree.write("a/b", '"\\n\n', "build")
        tree.write("b", "x y", "person")
        tree.link("c", "a/b")
        for text in ("a", '"', "\\\n"):
            store.put_content(text)
        store.add_record(Record(("a",), 5, (), (1,)))
        store.add_record(Record(("b",), 5, (), (1,)))
        store.damage_record(1, "x\\")
        forms = ((save_tree(tree), load_tree, save_tree), (save_store(store), load_store, save_store),
                 (save_settings({"a": '"\\', "b": "\n"}), load_settings, save_settings))
        loaded = 0
        for text, load, save in forms:
            for _ in range(2000):
                at = rng.randrange(len(text))
                kind = rng.randrange(3)
                sign = rng.choice(['"', "\\", "n", " ", "\n", "a", "0", "1", "#", "%", "_", "/"])
                changed = text[:at] + (sign if kind < 2 else "") + text[at + (kind > 0):]
                try:
                    self.assertEqual(save(load(changed)), changed)
                    loaded += 1
                except InvalidSave as error:
                    self.assertTrue(1 <= error.line <= len(changed.split("\n")) + 1)
        self.assertGreater(loaded, 300)


if __name__ == "__main__":
    unittest.main()
