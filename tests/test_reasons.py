"""Points 160 to 162: the checking of ledger entries."""

import unittest

from kilnyard.keys import content_key
from kilnyard.reasons import check_entry
from tests.helpers import Yard, copies, drive, joins

FAILING = "rule {} :\nfail\nend\n"


class ReasonCase(unittest.TestCase):
    def check(self, yard, build, *entries):
        """These entries hold."""
        for entry in entries:
            self.assertTrue(yard.checks(entry, build), entry)

    def check_not(self, yard, build, *entries):
        """These entries do not hold."""
        for entry in entries:
            self.assertFalse(yard.checks(entry, build), entry)


class TestTake(ReasonCase):
    def setUp(self):
        self.yard = Yard(joins("a : s", "b : a", "c :", "d :"), {"s": "1"}, hall=True)
        self.yard.made("b", "c")
        self.build = self.yard.build("b", "c")
        self.entries = [("take", "a", "own", 0), ("take", "b", "own", 1), ("take", "c", "own", 2)]

    def test_what_was_taken(self):
        self.assertEqual(self.build.ledger(), self.entries)
        self.check(self.yard, self.build, *self.entries)

    def test_a_record_of_the_hall(self):
        entry = ("take", "a", "hall", 0)
        self.check(self.yard, self.build, entry)
        self.assertFalse(check_entry(entry, self.build, self.yard.store, None))
        self.assertTrue(check_entry(self.entries[0], self.build, self.yard.store, None))
        self.yard.hall.lose_record(0)
        self.check_not(self.yard, self.build, entry)
        self.check(self.yard, self.build, self.entries[0])

    def test_other_names_places_and_indexes(self):
        self.check_not(self.yard, self.build, ("take", "b", "own", 0), ("take", "c", "own", 0),
                       ("take", "d", "own", 0), ("take", "s", "own", 0), ("take", "", "own", 0),
                       ("take", "a", "own", 1), ("take", "a", "own", -3), ("take", "a", "own", 3),
                       ("take", "a", "own", -1), ("take", "c", "hall", 0), ("take", "c", "hall", 3))

    def test_records_that_are_lost_or_damaged(self):
        self.yard.store.lose_record(0)
        self.yard.store.damage_record(1, "x")
        self.check_not(self.yard, self.build, *self.entries[:2])
        self.check(self.yard, self.build, self.entries[2])

    def test_records_of_another_rule(self):
        job = self.yard.record("a", (), ("1<a>",))
        job.rule_key += 1
        self.yard.store.add_record(job)
        self.yard.store.add_record(self.yard.record("a", (), ("1<a>",)))
        self.check_not(self.yard, self.build, ("take", "a", "own", 3))
        self.check(self.yard, self.build, ("take", "a", "own", 4))

    def test_a_need_that_has_changed(self):
        self.yard.write(s="2")
        self.check_not(self.yard, self.build, self.entries[0])
        self.check(self.yard, self.build, *self.entries[1:])
        self.yard.write(s="1")
        self.check(self.yard, self.build, *self.entries)

    def test_a_need_that_is_held_counts_as_changed(self):
        build = self.yard.build("b")
        self.yard.tree.write("b", "1<a><b>", "build")
        self.check(self.yard, build, ("take", "b", "own", 1))
        yard = Yard(joins("a :") + copies(("b", "a")))
        yard.store.add_record(yard.record("b", (("link", "a", None), ("file", "a", 1)), ("x",)))
        yard.tree.write("b", "x", "build")
        build = yard.build("b")
        build.view().mark_done(build.job("b"))
        self.check_not(yard, build, ("take", "b", "own", 0))
        build.view().mark_done(build.job("a"))
        yard.tree.write("a", "", "build")
        self.check(yard, build, ("take", "b", "own", 0))

    def test_contents_in_the_tree(self):
        self.yard.tree.write("a", "other", "build")
        self.check_not(self.yard, self.build, *self.entries[:2])
        self.yard.tree.erase("a")
        self.check_not(self.yard, self.build, *self.entries[:2])
        self.yard.tree.write("a", "1<a>", "person")
        self.check(self.yard, self.build, *self.entries)
        for key in self.yard.store.content_keys():
            self.yard.store.lose_content(key)
        self.check(self.yard, self.build, *self.entries)

    def test_all_results_are_looked_at(self):
        yard = Yard('rule a b :\n put 1 "1"\n put 2 "2"\nend')
        yard.made("a")
        build = yard.build("a")
        for path, text in (("a", "1"), ("b", "2")):
            yard.tree.write(path, "other", "build")
            self.check_not(yard, build, ("take", "a", "own", 0))
            yard.tree.write(path, text, "build")
            self.check(yard, build, ("take", "a", "own", 0))

    def test_a_job_that_is_not_done(self):
        yard = Yard(joins("a : s"), {"s": "1"})
        build = yard.build("a")
        attempt = build.start("a")
        yard.made("a")
        self.check_not(yard, build, ("take", "a", "own", 0))
        self.assertIsNone(build.start_again("a"))
        self.check(yard, build, ("take", "a", "own", 0), ("lost", "a", attempt))


class TestRun(ReasonCase):
    def setUp(self):
        self.yard = Yard(joins("a : s t", "b :", "c :"), {"s": "1", "t": "2"}, hall=True)
        needs = (("link", "s", None), ("file", "s", content_key("1")), ("link", "t", None))
        self.yard.store.add_record(self.yard.record("a", needs, ("x",)))
        self.yard.store.add_record(self.yard.record("a", needs[:2] + (("file", "t", 5),), ("x",)))
        self.yard.hall.add_record(self.yard.record("a", (("has", "u", True),), ("x",)))
        self.build = self.yard.build("a", "b")
        self.build.start("a")
        self.build.start("b")
        self.refused = (("own", 1, "need", 2, content_key("2")), ("own", 0, "result", 0),
                        ("hall", 0, "need", 0, False))

    def run_entry(self, *refused):
        return ("run", "a", 0, tuple(refused))

    def test_what_was_run(self):
        self.assertEqual(self.build.ledger(), [self.run_entry(*self.refused), ("run", "b", 1, ())])
        self.check(self.yard, self.build, *self.build.ledger())

    def test_other_names_and_attempts(self):
        self.check_not(self.yard, self.build, ("run", "a", 1, self.refused), ("run", "a", 2, self.refused),
                       ("run", "a", -1, self.refused), ("run", "a", -2, self.refused), ("run", "b", 0, ()),
                       ("run", "c", 0, ()), ("run", "c", 1, ()), ("run", "b", 1, self.refused))

    def test_not_exactly_the_candidates_in_order(self):
        one, two, three = self.refused
        self.check_not(self.yard, self.build, self.run_entry(), self.run_entry(one, two), self.run_entry(two, three),
                       self.run_entry(two, one, three), self.run_entry(three, one, two),
                       self.run_entry(one, two, three, three), self.run_entry(one, one, two, three))
        self.assertFalse(check_entry(self.run_entry(one, two, three), self.build, self.yard.store, None))
        self.assertTrue(check_entry(self.run_entry(one, two), self.build, self.yard.store, None))

    def test_other_positions_words_and_values(self):
        one, two, three = self.refused
        for other in (("own", 1, "need", 1, content_key("2")), ("own", 1, "need", 3, content_key("2")),
                      ("own", 1, "need", -1, content_key("2")), ("own", 1, "need", 2, content_key("1")),
                      ("own", 1, "need", 2, None), ("own", 1, "result", 0), ("own", 0, "need", 2, content_key("2"))):
            self.check_not(self.yard, self.build, self.run_entry(other, two, three))
        for other in (("own", 0, "result", 1), ("own", 0, "result", -1), ("own", 0, "need", 0, None),
                      ("own", 0, "need", 2, None), ("hall", 0, "result", 0)):
            self.check_not(self.yard, self.build, self.run_entry(one, other, three))
        for other in (("hall", 0, "need", 0, True), ("hall", 0, "need", 0, None), ("hall", 0, "result", 0),
                      ("own", 0, "need", 0, False), ("hall", 0, "need", 0, 1)):
            self.check_not(self.yard, self.build, self.run_entry(one, two, other))
        self.check(self.yard, self.build, self.run_entry(one, two, three))

    def test_what_stands_now(self):
        self.yard.write(t="3")
        self.check_not(self.yard, self.build, self.run_entry(*self.refused))
        one = ("own", 1, "need", 2, content_key("3"))
        self.check(self.yard, self.build, self.run_entry(one, *self.refused[1:]))
        self.yard.store.put_content("x")
        self.check_not(self.yard, self.build, self.run_entry(one, *self.refused[1:]))
        self.yard.store.lose_record(0)
        self.check(self.yard, self.build, self.run_entry(one, self.refused[2]))
        self.yard.write(s="0")
        self.check_not(self.yard, self.build, self.run_entry(one, self.refused[2]))
        self.check(self.yard, self.build, self.run_entry(("own", 1, "need", 1, content_key("0")), self.refused[2]))

    def test_several_results(self):
        yard = Yard('rule a b :\n put 1 "1"\n put 2 "2"\nend')
        yard.store.add_record(yard.record("a", (), ("1", "2")))
        yard.store.put_content("1")
        build = yard.build("a")
        build.start("a")
        self.check(yard, build, ("run", "a", 0, (("own", 0, "result", 1),)))
        self.check_not(yard, build, ("run", "a", 0, (("own", 0, "result", 0),)))
        yard.store.lose_content(content_key("1"))
        self.check(yard, build, ("run", "a", 0, (("own", 0, "result", 0),)))
        self.check_not(yard, build, ("run", "a", 0, (("own", 0, "result", 1),)))

    def test_the_key_of_the_empty_text_is_not_true(self):
        yard = Yard(joins("a :"), {"u": ""})
        yard.store.add_record(yard.record("a", (("has", "u", False), ("file", "u", 5)), ("x",)))
        build = yard.build("a")
        build.start("a")
        self.check(yard, build, ("run", "a", 0, (("own", 0, "need", 0, True),)))
        self.check_not(yard, build, ("run", "a", 0, (("own", 0, "need", 0, 1),)))

    def test_a_need_that_is_held_counts_as_changed(self):
        yard = Yard(copies(("a", "b")) + joins("b :"))
        build = yard.build("a")
        build.start("a")
        yard.store.add_record(yard.record("a", (("link", "b", None), ("file", "b", 1)), ("x",)))
        # It is changed, but the view sees nothing.
        self.check_not(yard, build, *[("run", "a", 0, (("own", 0, "need", 1, seen),)) for seen in (None, 1, 2)])
        self.check_not(yard, build, ("run", "a", 0, (("own", 0, "result", 0),)), ("run", "a", 0, ()))


class TestRan(ReasonCase):
    def setUp(self):
        self.yard = Yard(joins("a : s", "b :", "c :"), {"s": "1"}, hall=True)
        self.build = self.yard.build("a", "b", "c")
        for name in ("a", "b", "c"):
            self.build.start(name)
        self.build.start_again("a")
        self.build.finish(0)
        self.build.finish(1)

    def test_what_ran(self):
        self.check(self.yard, self.build, ("ran", "a", 0), ("ran", "b", 1))
        # Another attempt of the job is an attempt of the job.
        self.check(self.yard, self.build, ("ran", "a", 3))

    def test_other_names_and_attempts(self):
        self.check_not(self.yard, self.build, ("ran", "a", 1), ("ran", "a", 4), ("ran", "a", -1), ("ran", "a", -4),
                       ("ran", "b", 0), ("ran", "c", 0), ("ran", "z", 0), ("ran", "s", 0))

    def test_a_job_that_is_not_done(self):
        self.check_not(self.yard, self.build, ("ran", "c", 2))
        self.yard.made("c")
        self.check_not(self.yard, self.build, ("ran", "c", 2))

    def test_the_newest_record_counts(self):
        self.yard.store.add_record(self.yard.record("a", (), ("1<a>",)))
        self.check(self.yard, self.build, ("ran", "a", 0))
        self.yard.store.add_record(self.yard.record("a", (("has", "u", True),), ("1<a>",)))
        self.check_not(self.yard, self.build, ("ran", "a", 0))
        self.yard.store.damage_record(3, "x")
        self.check(self.yard, self.build, ("ran", "a", 0))
        self.yard.store.add_record(self.yard.record("a", (), ("other",)))
        self.check_not(self.yard, self.build, ("ran", "a", 0))
        self.yard.store.lose_record(4)
        self.yard.store.lose_record(2)
        self.check(self.yard, self.build, ("ran", "a", 0))

    def test_records_of_the_hall_do_not_count(self):
        self.yard.hall.add_record(self.yard.record("a", (("has", "u", True),), ("1<a>",)))
        self.check(self.yard, self.build, ("ran", "a", 0))
        self.yard.store.lose_record(0)
        self.check_not(self.yard, self.build, ("ran", "a", 0))

    def test_changed_needs_and_contents(self):
        self.yard.write(s="2")
        self.check_not(self.yard, self.build, ("ran", "a", 0))
        self.yard.write(s="1")
        self.yard.tree.write("a", "", "build")
        self.check_not(self.yard, self.build, ("ran", "a", 0))
        self.yard.tree.write("a", "1<a>", "build")
        self.check(self.yard, self.build, ("ran", "a", 0))


class TestLost(ReasonCase):
    def test_attempts(self):
        yard = Yard(joins("a :", "b :", "c :"))
        build = yard.build("a", "b")
        build.drop(build.start("a"))
        build.start("b")
        build.start("a")
        self.check(yard, build, ("lost", "a", 0), ("lost", "a", 2), ("lost", "b", 1))
        self.check_not(yard, build, ("lost", "a", 1), ("lost", "a", 3), ("lost", "a", -1), ("lost", "a", -3),
                       ("lost", "b", 0), ("lost", "c", 0), ("lost", "", 0))


class TestWait(ReasonCase):
    def test_a_tool_that_is_held(self):
        yard = Yard(copies(("a", "b")) + joins("b :", "c :"))
        build = yard.build("a", "c")
        build.finish(build.start("a"))
        for over in (False, True):
            self.check(yard, build, ("wait", "a", "b"))
            self.check_not(yard, build, ("wait", "a", "c"), ("wait", "a", "a"), ("wait", "a", "z"),
                           ("wait", "b", "a"), ("wait", "c", "b"), ("wait", "z", "b"), ("wait", "b", "b"))
            drive(build)
        # Behind the build the record of `a` holds it at `b`; without the record the tool is held.
        yard.store.lose_record(yard.store.record_count() - 1)
        self.check(yard, build, ("wait", "a", "b"))

    def test_a_record_that_holds(self):
        yard = Yard("rule a :\n put 1 \"x\"\nend\n" + joins("b :", "c :"))
        yard.store.add_record(yard.record("a", (("file", "b", 5),), ("x",)))
        build = yard.build("a", "c")
        self.assertEqual(build.ledger(), [("wait", "a", "b")])
        self.check(yard, build, ("wait", "a", "b"))
        self.check_not(yard, build, ("wait", "a", "c"))
        # Without the record the tool is not held: it does not look at `b`.
        yard.store.lose_record(0)
        self.check_not(yard, build, ("wait", "a", "b"))

    def test_a_record_that_is_taken(self):
        yard = Yard(copies(("a", "b")) + joins("b :"))
        yard.store.add_record(yard.record("a", (), ("x",)))
        yard.store.put_content("x")
        build = yard.build("a", "b")
        self.check_not(yard, build, ("wait", "a", "b"))

    def test_only_the_other_job_is_not_done_in_the_view(self):
        yard = Yard('rule a :\n put 1 read("b") + read("c")\nend\n' + joins("b :", "c :"))
        build = yard.build("a")
        drive(build)
        waits = [entry for entry in build.ledger() if entry[0] == "wait"]
        self.assertEqual(waits, [("wait", "a", "b"), ("wait", "a", "c")])
        self.check(yard, build, *waits)
        # As long as `b` is not done, one does not come to `c`.
        other = yard.build("a", "c")
        yard = Yard('rule a :\n put 1 read("b") + read("c")\nend\n' + joins("b :", "c :"))
        other = yard.build("a")
        other.finish(other.start("a"))
        self.check(yard, other, ("wait", "a", "b"))
        self.check_not(yard, other, ("wait", "a", "c"))

    def test_a_hall_that_holds(self):
        yard = Yard(joins("a :", "b :"), hall=True)
        yard.hall.add_record(yard.record("a", (("file", "b", 5),), ("x",)))
        build = yard.build("a")
        self.check(yard, build, ("wait", "a", "b"))
        self.assertFalse(check_entry(("wait", "a", "b"), build, yard.store, None))

    def test_a_job_that_waits_for_itself(self):
        yard = Yard(copies(("a", "a")))
        build = yard.build("a")
        drive(build)
        self.check(yard, build, ("wait", "a", "a"))


class TestFail(ReasonCase):
    def check_fail(self, yard, build, name, word, detail):
        """The failure of the job holds, and with another word, detail or name it does not."""
        entry = ("fail", name, word, detail)
        self.check(yard, build, entry)
        names = list(build.states()) + ["z", ""]
        for other in ("blocked", "missing", "tool", "ring", "lost"):
            for told in names + ["failed", "no file", "no"]:
                if (other, told) != (word, detail):
                    self.check_not(yard, build, ("fail", name, other, told))
        for other in names:
            if build.failures().get(other) != (word, detail):
                self.check_not(yard, build, ("fail", other, word, detail))

    def test_blocked_by_a_job_that_makes_an_input(self):
        yard = Yard(joins("a : c b", "e :") + FAILING.format("b x") + FAILING.format("c") + joins("d : x"))
        build = yard.build("a", "d", "e", keep_going=True)
        drive(build)
        self.check_fail(yard, build, "a", "blocked", "b")
        self.check_fail(yard, build, "d", "blocked", "b")

    def test_blocked_by_a_job_at_which_it_was_held(self):
        yard = Yard(copies(("a", "b")) + FAILING.format("b"))
        build = yard.build("a", keep_going=True)
        drive(build)
        self.check_fail(yard, build, "a", "blocked", "b")

    def test_blocked_needs_a_reason(self):
        # The failures of the build tell so, but what the tool reads has changed since.
        yard = Yard('rule a :\n put 1 read(read("s"))\nend\n' + FAILING.format("b"), {"s": "b"})
        build = yard.build("a", keep_going=True)
        drive(build)
        self.check(yard, build, ("fail", "a", "blocked", "b"))
        yard.write(s="s")
        self.check_not(yard, build, ("fail", "a", "blocked", "b"))

    def test_missing(self):
        yard = Yard(joins("a : s no nil", "b : a"), {"s": ""})
        build = yard.build("a", "b", keep_going=True)
        self.check_fail(yard, build, "a", "missing", "no")
        yard.tree.erase("s")
        self.check_not(yard, build, ("fail", "a", "missing", "no"))
        yard.write(s="")
        self.check(yard, build, ("fail", "a", "missing", "no"))
        yard.write(no="")
        self.check_not(yard, build, ("fail", "a", "missing", "no"))
        yard.write(nil="")
        self.check_not(yard, build, ("fail", "a", "missing", "no"))

    def test_a_file_of_a_build_is_missing(self):
        yard = Yard(joins("a : no"))
        yard.tree.write("no", "", "build")
        build = yard.build("a")
        self.check(yard, build, ("fail", "a", "missing", "no"))
        yard.tree.link("no", "rules")
        self.check(yard, build, ("fail", "a", "missing", "no"))

    def test_tool(self):
        for body, word in (("fail", "failed"), ('put 1 read("no")', "no file"), ("", "missing output")):
            yard = Yard(f"rule a :\n{body}\nend\n")
            build = yard.build("a")
            drive(build)
            self.check_fail(yard, build, "a", "tool", word)
        yard = Yard('rule a :\n put 1 read("no")\nend')
        build = yard.made("a")
        yard.write(no="x")
        self.check_not(yard, build, ("fail", "a", "tool", "no file"))
        yard.tree.link("no", "no")
        self.check_not(yard, build, ("fail", "a", "tool", "no file"), ("fail", "a", "tool", "too many links"))

    def test_ring(self):
        for recipes in (joins("a : b", "b : a"), copies(("a", "b"), ("b", "a")), joins("a : b") + copies(("b", "a")),
                        joins("a : a", "b : b"), copies(("a", "a"), ("b", "b"))):
            yard = Yard(recipes + joins("c : a", "d :"))
            build = yard.build("a", "b", "c", "d", keep_going=True)
            drive(build)
            self.check_fail(yard, build, "a", "ring", "a")
            self.check_fail(yard, build, "b", "ring", "b")
            self.check_fail(yard, build, "c", "blocked", "a")

    def test_ring_needs_a_reason(self):
        yard = Yard('rule a :\n put 1 read(read("s"))\nend\n', {"s": "a"})
        build = yard.made("a")
        self.check(yard, build, ("fail", "a", "ring", "a"))
        yard.write(s="s")
        self.check_not(yard, build, ("fail", "a", "ring", "a"))

    def test_lost(self):
        yard = Yard(joins("a :", "b : a"))
        build = yard.build("b", keep_going=True)
        build.give_up("a")
        self.check_fail(yard, build, "a", "lost", "a")
        self.check_fail(yard, build, "b", "blocked", "a")

    def test_a_missing_goal_is_no_job(self):
        yard = Yard(joins("a :"))
        build = yard.build("a", "no", keep_going=True)
        self.assertEqual(build.failures(), {"no": ("missing", "no")})
        self.check_not(yard, build, ("fail", "no", "missing", "no"), ("fail", "a", "missing", "no"),
                       ("fail", "a", "blocked", "no"))

    def test_jobs_that_have_not_failed(self):
        yard = Yard(joins("a :") + FAILING.format("b"))
        build = yard.build("a", "b")
        build.start("b")
        self.check_not(yard, build, ("fail", "b", "tool", "failed"), ("fail", "a", "lost", "a"))


class TestMissing(ReasonCase):
    def test_goals(self):
        yard = Yard(joins("a : s"), {"s": "", "t": ""})
        yard.tree.write("x", "", "build")
        yard.tree.link("l", "s")
        build = yard.build("no", "a", "t", "x", "l", keep_going=True)
        self.check(yard, build, ("missing", "no"), ("missing", "x"), ("missing", "l"))
        self.check_not(yard, build, ("missing", "a"), ("missing", "t"), ("missing", "s"), ("missing", "z"),
                       ("missing", ""))
        yard.write(no="")
        self.check_not(yard, build, ("missing", "no"))


class TestWholeBuilds(ReasonCase):
    def test_entries_about_jobs_that_are_not_needed(self):
        yard = Yard(joins("a :", "b :"))
        yard.made("b")
        build = yard.build("a")
        build.start("a")
        for name in ("b", "z", "s", ""):
            self.check_not(yard, build, ("take", name, "own", 0), ("run", name, 0, ()), ("ran", name, 0),
                           ("lost", name, 0), ("wait", name, "a"), ("fail", name, "tool", "failed"),
                           ("fail", name, "lost", name))

    def test_too_many(self):
        recipes = ("rule *.a : *.b\n put 1 stem\nend\nrule *.b : *.c\n put 1 stem\nend\n"
                   'rule *.c :\n put 1 read("z")\nend\n' + joins("z :"))
        yard = Yard(recipes)
        build = yard.build(*[f"f{at}.a" for at in range(20)])
        build.finish(build.start("f0.c"))
        self.assertEqual(build.outcome(), "too many")
        self.check_not(yard, build, *build.ledger())

    def test_a_whole_build_when_it_is_over(self):
        yard = Yard(copies(("a", "b")) + joins("b : s", "c : a b", "d : no") + FAILING.format("e")
                    + copies(("f", "e"), ("g", "g")), {"s": "1"})
        yard.made("b")
        yard.write(s="2")
        build = yard.build("c", "d", "f", "g", "nil", keep_going=True)
        drive(build)
        kinds = [entry[0] if entry[0] != "fail" else entry[2] for entry in build.ledger()]
        for kind in ("run", "ran", "wait", "missing", "tool", "blocked", "ring"):
            self.assertIn(kind, kinds)
        for entry in build.ledger():
            if entry[0] != "run":
                self.check(yard, build, entry)
        self.assertEqual(build.ledger()[0], ("missing", "nil"))


if __name__ == "__main__":
    unittest.main()
