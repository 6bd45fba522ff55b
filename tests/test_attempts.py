"""Points 115 to 118 and 122: attempts, what they write, and jobs that are given up."""

import unittest

from kilnyard.journals import Journal, content_line, record_line
from kilnyard.keys import content_key
from kilnyard.records import Record
from kilnyard.refusals import BuildOver, NoSuchAttempt, NotReady, NotRunning
from kilnyard.stores import Store
from tests.helpers import Yard, copies, drive, joins, kept, lines_of_writes, told

FAILING = "rule {} :\nfail\nend\n"


class AttemptCase(unittest.TestCase):
    def check_refused(self, yard, build, error, method, *arguments, **attributes):
        """A call raises an error and changes nothing."""
        before = (told(build), yard.all_kept())
        with self.assertRaises(error) as caught:
            getattr(build, method)(*arguments)
        self.assertEqual({name: getattr(caught.exception, name) for name in attributes}, attributes)
        self.assertEqual((told(build), yard.all_kept()), before)

    def check_nothing(self, yard, build, method, attempt):
        """A call returns False and changes nothing."""
        before = (told(build), yard.all_kept())
        self.assertIs(getattr(build, method)(attempt), False)
        self.assertEqual((told(build), yard.all_kept()), before)
        self.assertEqual(build.writes(attempt), [])


class TestStart(AttemptCase):
    def test_attempts_are_numbered_in_the_order_of_their_starts(self):
        yard = Yard(joins("a :", "b :", "c :"))
        build = yard.build("a", "b", "c")
        self.assertEqual(build.attempt_count(), 0)
        for attempt, name in enumerate(("b", "c", "a")):
            self.assertEqual(build.start(name), attempt)
            self.assertEqual(build.attempt_count(), attempt + 1)
            self.assertEqual(build.attempt_job(attempt), name)
            self.assertEqual(build.states()[name], "running")
        self.assertEqual(build.ledger(), [("run", "b", 0, ()), ("run", "c", 1, ()), ("run", "a", 2, ())])
        self.assertEqual(build.ready(), [])

    def test_steps(self):
        yard = Yard('rule a :\n let x "1"\n put 1 upper(x)\nend\nrule b :\n let x "1"\n fail\nend\n' + joins("c : b"))
        build = yard.build("a", "b", keep_going=True)
        build.start("a")
        build.start("b")
        self.assertEqual((build.attempt_steps(0), build.attempt_steps(1)), (3, 2))

    def test_nothing_is_written_by_a_start(self):
        yard = Yard(joins("a :"), hall=True)
        build = yard.build("a")
        before = yard.all_kept()
        build.start("a")
        self.assertEqual(yard.all_kept(), before)
        self.assertEqual(build.contents(), {})

    def test_the_tool_runs_at_once_on_what_is_seen(self):
        yard = Yard(joins("a : s"), {"s": "1"})
        build = yard.build("a")
        attempt = build.start("a")
        yard.write(s="2")
        build.finish(attempt)
        self.assertEqual(build.contents(), {"a": "1<a>"})

    def test_a_record_that_came_in_between_is_taken(self):
        recipes = joins("a :", "b : a")
        for place in ("own", "hall"):
            yard, other = Yard(recipes, hall=True), Yard(recipes, hall=True)
            build = yard.build("b")
            other.store = yard.store if place == "own" else other.store
            other.hall = yard.hall if place == "hall" else None
            other.made("a")
            self.assertIsNone(build.start("a"))
            self.assertEqual(build.ledger(), [("take", "a", place, 0)])
            self.assertEqual(build.states(), {"a": "done", "b": "ready"})
            self.assertEqual(build.attempt_count(), 0)
            self.assertEqual(yard.tree.read("a"), "<a>")

    def test_a_record_in_between_that_is_refused(self):
        yard = Yard(joins("a : s"), {"s": "1"})
        build = yard.build("a")
        yard.store.add_record(yard.record("a", (("link", "s", 5),), ("x",)))
        self.assertEqual(build.start("a"), 0)
        self.assertEqual(build.ledger(), [("run", "a", 0, (("own", 0, "need", 0, None),))])

    def test_a_record_that_holds_in_between(self):
        recipes = copies(("a", "b")) + joins("b : c", "c :")
        yard, other = Yard(recipes), Yard(recipes)
        other.made("a")
        build = yard.build("a")
        self.assertEqual(build.ready(), ["a"])
        yard.store.fill_from(other.store.kept_texts(), other.store.kept_records())
        yard.store.lose_record(0)
        self.assertIsNone(build.start("a"))
        self.assertEqual(build.ledger(), [("wait", "a", "b")])
        self.assertEqual(build.states(), {"a": "waiting", "b": "waiting", "c": "ready"})
        self.assertEqual(build.attempt_count(), 0)
        drive(build)
        self.assertEqual(build.contents()["a"], "<c><b>")

    def test_a_record_that_holds_at_a_failed_job(self):
        yard = Yard(copies(("a", "b")) + FAILING.format("b"))
        build = yard.build("a", "b", keep_going=True)
        build.finish(build.start("b"))
        yard.store.add_record(yard.record("a", (("link", "b", None), ("file", "b", 1)), ("x",)))
        self.assertIsNone(build.start("a"))
        self.assertEqual(build.ledger()[-2:], [("wait", "a", "b"), ("fail", "a", "blocked", "b")])
        self.assertEqual(build.outcome(), "failed")

    def test_a_job_that_is_not_ready(self):
        yard = Yard(joins("a : b", "b :", "c :") + FAILING.format("d"))
        build = yard.build("a", "c", "d", keep_going=True)
        build.start("c")
        build.finish(build.start("d"))
        for name in ("a", "c", "d", "no", "rules", ""):
            self.check_refused(yard, build, NotReady, "start", name, name=name)
        build.finish(build.start("b"))
        self.check_refused(yard, build, NotReady, "start", "b", name="b")

    def test_a_build_that_is_over(self):
        for recipes, end in ((joins("a :"), None), (FAILING.format("a"), None), (joins("a :"), "cancel")):
            yard = Yard(recipes)
            build = yard.build("a")
            if end is None:
                drive(build)
            else:
                build.cancel()
            for method in ("start", "start_again", "give_up"):
                for name in ("a", "no"):
                    self.check_refused(yard, build, BuildOver, method, name)


class TestStartAgain(AttemptCase):
    def test_several_attempts_count(self):
        yard = Yard(joins("a :"))
        build = yard.build("a")
        self.assertEqual([build.start("a"), build.start_again("a"), build.start_again("a")], [0, 1, 2])
        self.assertEqual(build.ledger(), [("run", "a", attempt, ()) for attempt in range(3)])
        self.assertEqual([len(build.writes(attempt)) for attempt in range(3)], [3, 3, 3])
        self.assertEqual(build.states(), {"a": "running"})
        self.assertTrue(build.finish(1))
        for attempt in (0, 1, 2):
            self.check_nothing(yard, build, "finish", attempt)
            self.check_nothing(yard, build, "drop", attempt)

    def test_a_record_that_came_in_between_is_taken(self):
        yard = Yard(joins("a :", "b : a"))
        build = yard.build("b")
        build.start("a")
        build.start_again("a")
        yard.made("a")
        self.assertIsNone(build.start_again("a"))
        self.assertEqual(build.ledger()[2:], [("take", "a", "own", 0)])
        self.assertEqual((build.states(), build.attempt_count()), ({"a": "done", "b": "ready"}, 2))
        for attempt in (0, 1):
            self.check_nothing(yard, build, "finish", attempt)
            self.check_nothing(yard, build, "drop", attempt)

    def test_a_record_that_holds_in_between(self):
        yard = Yard(copies(("a", "b")) + joins("b :"))
        build = yard.build("a")
        build.start("a")
        yard.store.add_record(yard.record("a", (("link", "b", None), ("file", "b", 1)), ("x",)))
        self.assertIsNone(build.start_again("a"))
        self.assertEqual(build.ledger()[1:], [("wait", "a", "b")])
        self.assertEqual(build.states(), {"a": "waiting", "b": "ready"})
        self.check_nothing(yard, build, "finish", 0)
        drive(build)
        self.assertEqual(build.contents(), {"a": "<b>", "b": "<b>"})

    def test_a_job_that_is_not_running(self):
        yard = Yard(joins("a : b", "b :", "c :") + FAILING.format("d"))
        build = yard.build("a", "c", "d", keep_going=True)
        build.finish(build.start("c"))
        build.finish(build.start("d"))
        for name in ("a", "b", "c", "d", "no", ""):
            self.check_refused(yard, build, NotRunning, "start_again", name, name=name)
        build.drop(build.start("b"))
        self.check_refused(yard, build, NotRunning, "start_again", "b", name="b")


class TestFinish(AttemptCase):
    def test_a_run_that_was_done(self):
        yard = Yard('rule a b : s\n put 2 "B"\n put 1 read("s")\nend\n', {"s": "1"}, hall=True)
        build = yard.build("b")
        attempt = build.start("a")
        self.assertIs(build.finish(attempt), True)
        record = yard.record("a", (("link", "s", None), ("file", "s", content_key("1"))), ("1", "B"))
        for store in (yard.store, yard.hall):
            self.assertEqual(store.kept_texts(), {content_key("1"): "1", content_key("B"): "B"})
            self.assertEqual((store.record_count(), store.record(0)), (1, record))
        self.assertEqual(yard.tree.entries["a"], ("file", "1", "build"))
        self.assertEqual(yard.tree.entries["b"], ("file", "B", "build"))
        self.assertEqual(build.contents(), {"a": "1", "b": "B"})
        self.assertEqual((build.outcome(), build.states()), ("done", {"a": "done"}))
        self.assertEqual(build.ledger(), [("run", "a", 0, ()), ("ran", "a", 0)])

    def test_without_a_hall(self):
        yard = Yard(joins("a :"))
        yard.made("a")
        self.assertEqual(yard.store.record_count(), 1)

    def test_contents_come_before_the_record_in_the_journal(self):
        yard = Yard('rule a b c :\n put 3 "1"\n put 2 "2"\n put 1 "1"\nend')
        yard.store = Store(Journal())
        yard.made("a")
        record = yard.store.record(0)
        self.assertEqual(record.results, (content_key("1"), content_key("2"), content_key("1")))
        self.assertEqual(yard.store.journal.text(), content_line("1") + content_line("2") + record_line(record))

    def test_a_run_that_failed(self):
        for body, word in (("fail", "failed"), ('put 1 read("no")', "no file"), ("", "missing output")):
            yard = Yard(f"rule a :\n{body}\nend")
            before = yard.all_kept()
            build = yard.build("a")
            self.assertIs(build.finish(build.start("a")), True)
            self.assertEqual(yard.all_kept(), before)
            self.assertEqual((build.outcome(), build.failures()), ("failed", {"a": ("tool", word)}))
            self.assertEqual(build.ledger(), [("run", "a", 0, ()), ("fail", "a", "tool", word)])
            self.assertEqual((build.states(), build.contents()), ({"a": "failed"}, {}))

    def test_a_run_that_was_held(self):
        yard = Yard(copies(("a", "b")) + joins("b :"))
        build = yard.build("a")
        before = yard.all_kept()
        self.assertIs(build.finish(build.start("a")), True)
        self.assertEqual(yard.all_kept(), before)
        self.assertEqual(build.ledger(), [("run", "a", 0, ()), ("wait", "a", "b")])
        self.assertEqual(build.states(), {"a": "waiting", "b": "ready"})
        self.check_nothing(yard, build, "finish", 0)

    def test_an_attempt_that_is_finished_twice(self):
        yard = Yard(joins("a :", "b :"), hall=True)
        build = yard.build("a", "b")
        build.start("a")
        self.assertTrue(build.finish(0))
        self.check_nothing(yard, build, "finish", 0)

    def test_an_attempt_behind_another_one_of_its_job(self):
        for ends in ("done", "failed", "held"):
            recipes = {"done": joins("a :"), "failed": FAILING.format("a"), "held": copies(("a", "b"))}[ends]
            yard = Yard(recipes + joins("b :", "z :"))
            build = yard.build("a", "z", keep_going=True)
            build.start("a")
            build.start_again("a")
            self.assertTrue(build.finish(1))
            self.check_nothing(yard, build, "finish", 0)
            self.check_nothing(yard, build, "drop", 0)
            self.check_nothing(yard, build, "drop", 1)

    def test_an_attempt_that_was_dropped(self):
        yard = Yard(joins("a :"))
        build = yard.build("a")
        build.drop(build.start("a"))
        self.check_nothing(yard, build, "finish", 0)
        self.check_nothing(yard, build, "drop", 0)
        self.assertEqual(build.start("a"), 1)
        self.check_nothing(yard, build, "finish", 0)
        self.assertTrue(build.finish(1))

    def test_an_attempt_of_a_job_that_became_ready_again(self):
        # `a` waited for `b` meanwhile: its first attempt does not count when it runs once more.
        yard = Yard(copies(("a", "b")) + joins("b :"))
        build = yard.build("a", "b")
        build.start("a")
        build.start_again("a")
        build.finish(0)
        build.finish(build.start("b"))
        self.assertEqual(build.start("a"), 3)
        self.check_nothing(yard, build, "finish", 1)
        self.assertTrue(build.finish(3))

    def test_an_attempt_when_the_build_is_over(self):
        yard = Yard(joins("a :", "b :") + FAILING.format("c"))
        for end in ("cancel", "failure"):
            build = yard.build("a", "b", "c")
            build.start("a")
            if end == "cancel":
                build.cancel()
            else:
                build.finish(build.start("c"))
            self.check_nothing(yard, build, "finish", 0)
            self.check_nothing(yard, build, "drop", 0)
            self.assertEqual(build.states()["a"], "running")

    def test_attempts_that_there_are_not(self):
        yard = Yard(joins("a :", "b :"))
        build = yard.build("a", "b")
        build.start("a")
        for over in (False, True):
            for attempt in (1, -1, 2, 100):
                for method in ("finish", "drop", "writes", "attempt_job", "attempt_steps"):
                    self.check_refused(yard, build, NoSuchAttempt, method, attempt, attempt=attempt)
            if not over:
                build.cancel()


class TestDrop(AttemptCase):
    def test_the_only_attempt(self):
        yard = Yard(joins("a :"))
        build = yard.build("a")
        before = yard.all_kept()
        self.assertIs(build.drop(build.start("a")), True)
        self.assertEqual(build.ledger(), [("run", "a", 0, ()), ("lost", "a", 0)])
        self.assertEqual((build.states(), build.ready(), build.outcome()), ({"a": "ready"}, ["a"], "going"))
        self.assertEqual(yard.all_kept(), before)

    def test_one_of_two_attempts(self):
        for dropped in (0, 1):
            build = Yard(joins("a :")).build("a")
            build.start("a")
            build.start_again("a")
            self.assertIs(build.drop(dropped), True)
            self.assertEqual(build.states(), {"a": "running"})
            self.assertEqual(build.writes(dropped), [])
            self.assertTrue(build.finish(1 - dropped))
            self.assertEqual(build.outcome(), "done")

    def test_attempts_of_other_jobs_make_no_difference(self):
        build = Yard(joins("a :", "b :")).build("a", "b")
        build.start("a")
        build.start("b")
        build.drop(0)
        self.assertEqual(build.states(), {"a": "ready", "b": "running"})
        self.assertTrue(build.finish(1))


class TestGiveUp(AttemptCase):
    def test_a_ready_job(self):
        yard = Yard(joins("a : b", "b :", "c :"))
        for keep_going in (True, False):
            build = yard.build("a", "c", keep_going=keep_going)
            self.assertIsNone(build.give_up("b"))
            self.assertEqual(build.failures()["b"], ("lost", "b"))
            self.assertEqual(build.ledger()[0], ("fail", "b", "lost", "b"))
            if keep_going:
                self.assertEqual(build.ledger()[1:], [("fail", "a", "blocked", "b")])
                self.assertEqual(build.states(), {"a": "failed", "b": "failed", "c": "ready"})
                self.assertEqual(build.outcome(), "going")
            else:
                self.assertEqual(build.states(), {"a": "waiting", "b": "failed", "c": "ready"})
                self.assertEqual((build.outcome(), len(build.ledger())), ("failed", 1))

    def test_a_job_that_is_not_ready(self):
        yard = Yard(joins("a : b", "b :", "c :"))
        build = yard.build("a", "c")
        build.start("c")
        for name in ("a", "c", "no", ""):
            self.check_refused(yard, build, NotReady, "give_up", name, name=name)
        build.finish(0)
        self.check_refused(yard, build, NotReady, "give_up", "c", name="c")


class TestWrites(AttemptCase):
    RECIPES = 'rule b a :\n put 1 "1"\n put 2 has("s")\nend\n' + FAILING.format("f") + copies(("h", "b"))

    def test_a_run_that_was_done(self):
        yard = Yard(self.RECIPES)
        build = yard.build("a")
        build.start("b")
        record = yard.record("b", (("link", "s", None), ("has", "s", False)), ("1", ""))
        self.assertIsInstance(record, Record)
        expected = [("content", "1"), ("content", ""), ("record", record), ("file", "b", "1"), ("file", "a", "")]
        self.assertEqual(build.writes(0), expected)
        self.assertEqual(build.writes(0), expected)

    def test_with_a_hall(self):
        yard = Yard(self.RECIPES, hall=True)
        build = yard.build("a")
        build.start("b")
        record = yard.record("b", (("link", "s", None), ("has", "s", False)), ("1", ""))
        self.assertEqual(build.writes(0), [
            ("content", "1"), ("content", ""), ("record", record), ("hall content", "1"), ("hall content", ""),
            ("hall record", record), ("file", "b", "1"), ("file", "a", "")])

    def test_contents_that_are_there_are_told_too(self):
        yard = Yard(self.RECIPES)
        yard.store.put_content("1")
        yard.tree.write("a", "", "build")
        build = yard.build("a")
        build.start("b")
        self.assertEqual([write[0] for write in build.writes(0)], ["content", "content", "record", "file", "file"])

    def test_runs_that_were_not_done(self):
        yard = Yard(self.RECIPES)
        build = yard.build("f", "h")
        build.start("f")
        build.start("h")
        self.assertEqual((build.writes(0), build.writes(1)), ([], []))

    def test_attempts_that_do_not_count(self):
        yard = Yard(self.RECIPES)
        build = yard.build("a")
        build.drop(build.start("b"))
        self.assertEqual(build.writes(0), [])
        build.start("b")
        self.assertEqual(len(build.writes(1)), 5)
        build.cancel()
        self.assertEqual(build.writes(1), [])

    def test_finishing_writes_just_these(self):
        yard, other = Yard(self.RECIPES, hall=True), Yard(self.RECIPES, hall=True)
        build = yard.build("a")
        build.start("b")
        for write in build.writes(0):
            target = {"c": other.store, "r": other.store, "h": other.hall}.get(write[0][0])
            if write[0].endswith("content"):
                target.put_content(write[1])
            elif write[0].endswith("record"):
                target.add_record(write[1])
            else:
                other.tree.write(write[1], write[2], "build")
        build.finish(0)
        self.assertEqual(kept(yard.store), kept(other.store))
        self.assertEqual(kept(yard.hall), kept(other.hall))
        self.assertEqual(yard.tree.entries, other.tree.entries)

    def test_the_records_of_writes_are_no_part_of_the_build(self):
        build = Yard(self.RECIPES).build("a")
        build.start("b")
        before = lines_of_writes(build.writes(0))
        build.writes(0).clear()
        self.assertEqual(lines_of_writes(build.writes(0)), before)


if __name__ == "__main__":
    unittest.main()
