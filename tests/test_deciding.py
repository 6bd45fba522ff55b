"""Points 101 to 104: candidates, results at hand, decisions, and the taking of records."""

import unittest

from kilnyard.deciding import at_hand, candidates, decide, take
from kilnyard.errors import Held
from kilnyard.journals import Journal, content_line
from kilnyard.keys import content_key
from kilnyard.records import Record, format_record
from kilnyard.stores import Store
from kilnyard.targets import rule_key
from tests.helpers import Yard, kept

RECIPES = """set mode "m"
rule a b : c
  put 1 read("c") + setting("mode")
  put 2 upper(read("c"))
end
rule u :
  put 1 read("v") + read("w")
end
rule v :
  put 1 "v"
end
rule w :
  put 1 "w"
end
rule *.o : *.c
  put 1 stem
end
"""

A_NEEDS = (("link", "c", None), ("file", "c", content_key("x")), ("setting", "mode", content_key("m")))
A_RESULTS = ("xm", "X")


class DecidingCase(unittest.TestCase):
    def setUp(self):
        self.yard = Yard(RECIPES, {"c": "x", "x.c": "", "y.c": ""}, hall=True)
        self.tree, self.book, self.store, self.hall = (self.yard.tree, self.yard.book, self.yard.store,
                                                       self.yard.hall)
        self.view = self.yard.view()

    def add(self, store, path="a", needs=A_NEEDS, results=A_RESULTS):
        """Adds a record of the job that makes a path."""
        return store.add_record(self.yard.record(path, needs, results))

    def decide(self, path="a", hall=True):
        """The decision about the job that makes a path, which changes nothing."""
        before = self.yard.all_kept()
        decision = decide(self.yard.job(path), self.view, self.store, self.hall if hall else None)
        self.assertEqual(self.yard.all_kept(), before)
        return decision

    def put(self, *texts):
        for text in texts:
            self.store.put_content(text)


class TestCandidates(DecidingCase):
    def candidates(self, path="a", hall=True):
        before = self.yard.all_kept()
        found = candidates(self.yard.job(path), self.book, self.store, self.hall if hall else None)
        self.assertEqual(self.yard.all_kept(), before)
        return found

    def test_none(self):
        self.assertEqual(self.candidates(), [])
        self.assertEqual(self.candidates(hall=False), [])

    def test_the_store_comes_first_and_the_newest_first(self):
        for store in (self.hall, self.store, self.hall, self.store, self.hall):
            self.add(store)
        self.assertEqual(self.candidates(), [("own", 1), ("own", 0), ("hall", 2), ("hall", 1), ("hall", 0)])
        self.assertEqual(self.candidates(hall=False), [("own", 1), ("own", 0)])

    def test_the_hall_alone(self):
        self.add(self.hall)
        self.assertEqual(self.candidates(), [("hall", 0)])
        self.assertEqual(self.candidates(hall=False), [])

    def test_records_with_other_outputs_or_another_rule(self):
        job = self.yard.job("a")
        key = rule_key(self.book, job)
        for record in (Record(("b", "a"), key, (), (1, 1)), Record(("a",), key, (), (1,)),
                       Record(("a", "b"), key + 1, (), (1, 1)), Record(("a", "b"), key, (), (1, 1))):
            self.store.add_record(record)
            self.hall.add_record(record)
        self.assertEqual(self.candidates(), [("own", 3), ("hall", 3)])

    def test_the_stem_belongs_to_the_rule_text(self):
        record = self.yard.record("x.o", (), ("x",))
        self.store.add_record(record)
        self.store.add_record(Record(("y.o",), record.rule_key, (), (1,)))
        self.assertEqual(self.candidates("x.o"), [("own", 0)])
        self.assertEqual(self.candidates("y.o"), [])

    def test_only_whole_records(self):
        for store in (self.store, self.hall):
            for _ in range(3):
                self.add(store)
            store.lose_record(0)
            store.damage_record(1, "x")
        self.assertEqual(self.candidates(), [("own", 2), ("hall", 2)])

    def test_needs_and_results_make_no_difference(self):
        self.add(self.store, needs=(), results=("", ""))
        self.assertEqual(self.candidates(), [("own", 0)])

    def test_the_list_is_new(self):
        self.add(self.store)
        self.candidates().clear()
        self.assertEqual(self.candidates(), [("own", 0)])


class TestAtHand(DecidingCase):
    def check(self, text, expected, hall=True, path="a"):
        before = self.yard.all_kept()
        found = at_hand(path, content_key(text), self.tree, self.store, self.hall if hall else None)
        self.assertIs(found, expected)
        self.assertEqual(self.yard.all_kept(), before)

    def test_nowhere(self):
        self.check("t", False)
        self.check("", False)

    def test_in_the_tree_whoever_wrote_it(self):
        for by in ("person", "build"):
            self.tree.write("a", "t", by)
            self.check("t", True)
            self.check("t", True, hall=False)
            self.check("u", False)
            self.check("t", False, path="b")

    def test_the_empty_content_in_the_tree(self):
        self.tree.write("a", "", "build")
        self.check("", True)
        self.check("", False, path="b")

    def test_links_are_not_followed(self):
        self.tree.write("b", "t", "build")
        self.tree.link("a", "b")
        self.check("t", False)

    def test_in_the_store(self):
        self.put("t")
        self.check("t", True)
        self.check("t", True, hall=False)
        self.store.damage_content(content_key("t"), "u")
        self.check("t", False)
        self.check("u", False)
        self.store.lose_content(content_key("t"))
        self.check("t", False)

    def test_in_the_hall(self):
        self.hall.put_content("t")
        self.check("t", True)
        self.check("t", False, hall=False)
        self.hall.damage_content(content_key("t"), "u")
        self.check("t", False)

    def test_a_key_of_no_text(self):
        self.put("t")
        self.assertIs(at_hand("a", 2, self.tree, self.store, self.hall), False)


class TestDecide(DecidingCase):
    def test_no_candidates(self):
        self.assertEqual(self.decide(), ("run", ()))
        self.assertEqual(self.decide(hall=False), ("run", ()))

    def test_a_record_that_fits(self):
        self.put(*A_RESULTS)
        self.add(self.store)
        self.assertEqual(self.decide(), ("take", "own", 0))
        self.assertEqual(self.decide(hall=False), ("take", "own", 0))

    def test_a_record_that_fits_in_the_hall_alone(self):
        for text in A_RESULTS:
            self.hall.put_content(text)
        self.add(self.hall)
        self.assertEqual(self.decide(), ("take", "hall", 0))
        self.assertEqual(self.decide(hall=False), ("run", ()))

    def test_the_first_candidate_is_taken(self):
        self.put(*A_RESULTS)
        for store in (self.store, self.store, self.hall):
            self.add(store)
        self.assertEqual(self.decide(), ("take", "own", 1))
        self.store.damage_record(1, "x")
        self.assertEqual(self.decide(), ("take", "own", 0))
        self.store.lose_record(0)
        self.assertEqual(self.decide(), ("take", "hall", 0))

    def test_changed_needs(self):
        self.put(*A_RESULTS)
        for at, (need, seen) in enumerate([(("link", "c", 5), None), (("file", "c", 5), content_key("x")),
                                           (("setting", "mode", None), content_key("m")),
                                           (("has", "c", False), True), (("has", "d", True), False),
                                           (("file", "d", 5), None),
                                           (("listing", "", "x.*", 5), content_key("x.c"))]):
            with self.subTest(need=need):
                self.setUp()
                self.put(*A_RESULTS)
                self.add(self.store, needs=A_NEEDS[:at] + (need,))
                position = len(A_NEEDS[:at])
                self.assertEqual(repr(self.decide()), repr(("run", (("own", 0, "need", position, seen),))))

    def test_only_the_first_changed_need_is_told(self):
        self.put(*A_RESULTS)
        self.add(self.store, needs=(("has", "c", True), ("has", "d", True), ("has", "e", True)))
        self.assertEqual(self.decide(), ("run", (("own", 0, "need", 1, False),)))

    def test_results_that_are_not_at_hand(self):
        self.add(self.store)
        self.assertEqual(self.decide(), ("run", (("own", 0, "result", 0),)))
        self.put(A_RESULTS[0])
        self.assertEqual(self.decide(), ("run", (("own", 0, "result", 1),)))
        self.put(A_RESULTS[1])
        self.assertEqual(self.decide(), ("take", "own", 0))
        self.store.lose_content(content_key(A_RESULTS[0]))
        self.assertEqual(self.decide(), ("run", (("own", 0, "result", 0),)))

    def test_results_in_several_places(self):
        self.add(self.store)
        self.tree.write("a", A_RESULTS[0], "person")
        self.hall.put_content(A_RESULTS[1])
        self.assertEqual(self.decide(), ("take", "own", 0))
        self.assertEqual(self.decide(hall=False), ("run", (("own", 0, "result", 1),)))

    def test_results_at_the_output_of_one_another(self):
        self.add(self.store)
        self.tree.write("b", A_RESULTS[0], "build")
        self.tree.write("a", A_RESULTS[1], "build")
        self.assertEqual(self.decide(), ("run", (("own", 0, "result", 0),)))

    def test_needs_come_before_results(self):
        self.add(self.store, needs=(("has", "d", True),))
        self.assertEqual(self.decide(), ("run", (("own", 0, "need", 0, False),)))

    def test_all_candidates_are_refused(self):
        self.add(self.store)
        self.add(self.store, needs=(("has", "d", True),))
        self.add(self.hall, needs=A_NEEDS[:2] + (("setting", "mode", 7),))
        self.add(self.hall, results=("1", "2"))
        self.assertEqual(self.decide(), ("run", (
            ("own", 1, "need", 0, False), ("own", 0, "result", 0),
            ("hall", 1, "result", 0), ("hall", 0, "need", 2, content_key("m")))))
        self.put(A_RESULTS[0])
        self.assertEqual(self.decide(hall=False), ("run", (("own", 1, "need", 0, False), ("own", 0, "result", 1))))

    def test_a_refused_candidate_before_one_that_is_taken(self):
        self.put(*A_RESULTS)
        self.add(self.hall)
        self.add(self.store, needs=(("has", "d", True),))
        self.assertEqual(self.decide(), ("take", "hall", 0))

    def test_held(self):
        self.put("vw")
        record = (("link", "v", None), ("file", "v", content_key("v")))
        self.add(self.store, "u", record, ("vw",))
        with self.assertRaises(Held) as caught:
            self.decide("u")
        self.assertEqual(caught.exception.job, self.yard.job("v"))
        self.view.mark_done(self.yard.job("v"))
        self.tree.write("v", "v", "build")
        self.assertEqual(self.decide("u"), ("take", "own", 0))
        self.tree.write("v", "other", "build")
        self.assertEqual(self.decide("u"), ("run", (("own", 0, "need", 1, content_key("other")),)))

    def test_held_comes_before_a_later_candidate_that_fits(self):
        self.put("vw")
        self.add(self.store, "u", (), ("vw",))
        self.add(self.store, "u", (("file", "v", 1),), ("vw",))
        with self.assertRaises(Held):
            self.decide("u")

    def test_not_held_behind_a_candidate_that_is_taken(self):
        self.put("vw")
        self.add(self.store, "u", (("file", "v", 1),), ("vw",))
        self.add(self.store, "u", (), ("vw",))
        self.assertEqual(self.decide("u"), ("take", "own", 1))

    def test_not_held_behind_a_changed_need(self):
        self.add(self.store, "u", (("has", "c", False), ("file", "v", 1)), ("vw",))
        self.assertEqual(self.decide("u"), ("run", (("own", 0, "need", 0, True),)))

    def test_held_also_if_the_results_are_not_at_hand(self):
        self.add(self.store, "u", (("file", "v", 1),), ("nowhere",))
        with self.assertRaises(Held):
            self.decide("u")

    def test_settings_of_the_host(self):
        self.put(*A_RESULTS)
        self.add(self.store)
        self.yard.settings["mode"] = "other"
        self.view = self.yard.view()
        self.assertEqual(self.decide(), ("run", (("own", 0, "need", 2, content_key("other")),)))


class TestTake(DecidingCase):
    def take(self, hall=True):
        """Takes what is decided for the job of `a`; the tree has its results then."""
        self.view = self.yard.view()
        decision = self.decide(hall=hall)
        self.assertEqual(decision[0], "take")
        hall_before = kept(self.hall)
        records = self.store.kept_records()
        self.assertIsNone(take(self.yard.job("a"), decision, self.view, self.store, self.hall if hall else None))
        self.assertEqual(kept(self.hall), hall_before)
        self.assertEqual(self.store.kept_records(), records)
        self.assertFalse(self.view.is_done(self.yard.job("a")))
        for path, text in zip(("a", "b"), A_RESULTS):
            self.assertEqual((self.tree.read(path), self.tree.writer(path)), (text, "build"))

    def test_from_the_store(self):
        self.add(self.store)
        self.put(*A_RESULTS)
        for hall in (True, False):
            before = self.store.kept_texts()
            self.take(hall)
            self.assertEqual(self.store.kept_texts(), before)
            self.tree.erase("a")
            self.tree.erase("b")

    def test_from_the_hall_into_the_store(self):
        self.add(self.hall)
        for text in A_RESULTS:
            self.hall.put_content(text)
        self.take()
        self.assertEqual(self.store.kept_texts(), {content_key(text): text for text in A_RESULTS})
        self.assertEqual(self.store.record_count(), 0)

    def test_a_record_of_the_store_with_contents_of_the_hall(self):
        self.add(self.store)
        self.put(A_RESULTS[1])
        self.hall.put_content(A_RESULTS[0])
        self.take()
        self.assertEqual(sorted(self.store.kept_texts().values()), sorted(A_RESULTS))

    def test_the_store_comes_before_the_hall(self):
        # A content that the store has is not put into it again: that would add a line to a journal.
        journal = Journal()
        self.store = self.yard.store = Store(journal)
        self.put(A_RESULTS[0])
        before = journal.text()
        self.add(self.hall)
        for text in A_RESULTS:
            self.hall.put_content(text)
        self.take()
        self.assertEqual(journal.text(), before + content_line(A_RESULTS[1]))

    def test_a_damaged_content_of_the_store_is_replaced_by_that_of_the_hall(self):
        self.add(self.store)
        self.put(*A_RESULTS)
        self.store.damage_content(content_key(A_RESULTS[0]), "damaged")
        self.hall.put_content(A_RESULTS[0])
        self.take()
        self.assertEqual(self.store.content(content_key(A_RESULTS[0])), A_RESULTS[0])

    def test_files_that_have_the_contents_already(self):
        self.add(self.store)
        for by in ("person", "build"):
            self.tree.write("a", A_RESULTS[0], by)
            self.tree.write("b", A_RESULTS[1], by)
            self.take(False)
            # They are left as they are: the store is not given what the tree has.
            self.assertEqual(self.store.content_keys(), [])

    def test_other_files_and_links_at_the_outputs_are_replaced(self):
        self.add(self.store)
        self.put(*A_RESULTS)
        self.tree.write("a", "other", "person")
        self.tree.link("b", "c")
        self.take()
        self.assertEqual(self.tree.read("c"), "x")

    def test_only_the_outputs_are_written(self):
        self.add(self.store)
        self.put(*A_RESULTS)
        before = dict(self.tree.entries)
        self.take()
        after = dict(self.tree.entries)
        del after["a"], after["b"]
        self.assertEqual(after, before)

    def test_a_tree_that_is_full_of_persons_entries(self):
        for at in range(60 - len(self.tree.paths())):
            self.tree.write(f"f{at}", "", "person")
        self.add(self.store)
        self.put(*A_RESULTS)
        self.take()

    def test_a_job_with_the_same_result_twice(self):
        self.yard.write(rules="rule a b :\nput 1 stem\nput 2 stem\nend")
        record = self.yard.record("a", (), ("s", "s"))
        self.assertEqual(format_record(record).count(str(content_key("s"))), 2)
        self.hall.add_record(record)
        self.hall.put_content("s")
        self.view = self.yard.view()
        take(self.yard.job("a"), self.decide(), self.view, self.store, self.hall)
        self.assertEqual((self.tree.read("a"), self.tree.read("b")), ("s", "s"))
        self.assertEqual(self.store.kept_texts(), {content_key("s"): "s"})


if __name__ == "__main__":
    unittest.main()
