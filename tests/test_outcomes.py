"""Point 119: the outcomes of builds."""

import unittest

from kilnyard.building import Build
from kilnyard.keys import content_key
from tests.helpers import Yard, copies, drive, joins, told

FAILING = "rule {} :\nfail\nend\n"

# A goal that ends with `.a` needs three jobs.
TRIPLES = "rule *.a : *.b\n put 1 stem\nend\nrule *.b : *.c\n put 1 stem\nend\n"
SIXTY = [f"f{at}.a" for at in range(20)]


class TestDone(unittest.TestCase):
    def test_going_until_all_jobs_are_settled(self):
        build = Yard(joins("a : b", "b :")).build("a")
        self.assertEqual(build.outcome(), "going")
        attempt = build.start("b")
        self.assertEqual(build.outcome(), "going")
        build.finish(attempt)
        self.assertEqual(build.outcome(), "going")
        build.finish(build.start("a"))
        self.assertEqual(build.outcome(), "done")

    def test_keep_going_makes_no_difference_without_failures(self):
        for keep_going in (True, False):
            build = Yard(joins("a : b", "b :")).build("a", keep_going=keep_going)
            drive(build)
            self.assertEqual((build.outcome(), build.failures(), build.rings()), ("done", {}, []))

    def test_a_build_that_is_done_at_once(self):
        yard = Yard(joins("a : b", "b :"))
        yard.made("a")
        for keep_going in (True, False):
            self.assertEqual(yard.build("a", keep_going=keep_going).outcome(), "done")

    def test_contents_as_the_jobs_made_or_took_them(self):
        yard = Yard(joins("a : b", "b :"))
        build = yard.made("a")
        taking = yard.build("a")
        yard.tree.write("a", "other", "person")
        yard.tree.erase("b")
        for each in (build, taking):
            self.assertEqual(each.contents(), {"a": "<b><a>", "b": "<b>"})

    def test_contents_of_a_build_that_is_going_or_has_failed(self):
        yard = Yard('rule b c :\n put 1 "1"\n put 2 "2"\nend\n' + FAILING.format("z") + joins("a :"))
        build = yard.build("b", "z", "a")
        self.assertEqual(build.contents(), {})
        build.finish(build.start("b"))
        self.assertEqual(build.contents(), {"b": "1", "c": "2"})
        build.finish(build.start("z"))
        self.assertEqual((build.outcome(), build.contents()), ("failed", {"b": "1", "c": "2"}))


class TestFailed(unittest.TestCase):
    def test_a_failure_ends_the_build_at_once(self):
        build = Yard(joins("a : b", "d :") + FAILING.format("b") + FAILING.format("c")).build("a", "c", "d")
        attempts = [build.start(name) for name in ("b", "c", "d")]
        build.finish(attempts[0])
        self.assertEqual(build.outcome(), "failed")
        self.assertEqual(build.failures(), {"b": ("tool", "failed")})
        self.assertEqual(build.states(), {"a": "waiting", "b": "failed", "c": "running", "d": "running"})
        before = told(build)
        for attempt in attempts:
            self.assertIs(build.finish(attempt), False)
        build.cancel()
        self.assertEqual(told(build), before)

    def test_a_build_does_not_keep_going_by_itself(self):
        yard = Yard(joins("a : no", "b :"))
        build = Build(yard.tree, yard.book, {}, yard.store, None, ["a", "b"])
        self.assertEqual((build.outcome(), build.states()), ("failed", {"a": "failed", "b": "waiting"}))

    def test_a_build_that_keeps_going(self):
        build = Yard(joins("a : b", "d :") + FAILING.format("b") + FAILING.format("c")).build(
            "a", "c", "d", keep_going=True)
        drive(build)
        self.assertEqual(build.outcome(), "failed")
        self.assertEqual(build.failures(), {"a": ("blocked", "b"), "b": ("tool", "failed"), "c": ("tool", "failed")})
        self.assertEqual(build.states(), {"a": "failed", "b": "failed", "c": "failed", "d": "done"})
        self.assertEqual(build.contents(), {"d": "<d>"})

    def test_a_failure_while_moving_ends_the_build_before_the_next_move(self):
        yard = Yard(joins("a : no", "b : no", "c :"))
        build = yard.build("c", "b", "a")
        self.assertEqual(build.ledger(), [("fail", "a", "missing", "no")])
        self.assertEqual(build.states(), {"a": "failed", "b": "waiting", "c": "waiting"})
        build = yard.build("c", "b", "a", keep_going=True)
        self.assertEqual(build.ledger(), [("fail", "a", "missing", "no"), ("fail", "b", "missing", "no")])
        self.assertEqual((build.outcome(), build.states()["c"]), ("going", "ready"))

    def test_ready_jobs_stay_ready_when_the_build_is_over(self):
        build = Yard(joins("a :", "b :") + FAILING.format("c")).build("a", "b", "c")
        build.finish(build.start("c"))
        self.assertEqual((build.outcome(), build.ready()), ("failed", ["a", "b"]))


class TestMissing(unittest.TestCase):
    def setUp(self):
        self.yard = Yard(joins("a :"), {"s": ""}, {"l": "s"})
        self.yard.tree.write("x", "", "build")

    def test_several_missing_goals(self):
        for keep_going in (True, False):
            build = self.yard.build("z", "a", "x", "s", "l", "c", keep_going=keep_going)
            self.assertEqual(build.ledger(), [("missing", "z"), ("missing", "x"), ("missing", "l"), ("missing", "c")])
            self.assertEqual(build.failures(), {goal: ("missing", goal) for goal in ("z", "x", "l", "c")})
            self.assertEqual(build.outcome(), "going" if keep_going else "failed")
            self.assertEqual(build.states(), {"a": "ready" if keep_going else "waiting"})
            drive(build)
            self.assertEqual(build.outcome(), "failed")
            self.assertEqual(build.contents(), {"a": "<a>"} if keep_going else {})

    def test_missing_goals_come_before_all_moves(self):
        self.yard.made("a")
        build = self.yard.build("a", "z", keep_going=True)
        self.assertEqual(build.ledger(), [("missing", "z"), ("take", "a", "own", 0)])
        self.assertEqual(self.yard.build("a", "z").ledger(), [("missing", "z")])

    def test_a_missing_goal_alone(self):
        for keep_going in (True, False):
            build = self.yard.build("z", keep_going=keep_going)
            self.assertEqual((build.outcome(), build.states(), build.rings()), ("failed", {}, []))


class TestCancelled(unittest.TestCase):
    def test_a_build_that_is_going(self):
        for keep_going in (True, False):
            yard = Yard(joins("a : b", "b :", "c :", "d :"))
            build = yard.build("a", "c", "d", keep_going=keep_going)
            build.finish(build.start("c"))
            build.start("b")
            before = (build.states(), build.contents(), build.failures(), build.ledger(), yard.all_kept())
            self.assertIsNone(build.cancel())
            self.assertEqual(build.outcome(), "cancelled")
            self.assertEqual((build.states(), build.contents(), build.failures(), build.ledger(), yard.all_kept()),
                             before)
            self.assertEqual(build.states(), {"a": "waiting", "b": "running", "c": "done", "d": "ready"})
            self.assertIs(build.finish(1), False)
            self.assertIsNone(build.cancel())
            self.assertEqual(build.outcome(), "cancelled")

    def test_a_build_that_is_over(self):
        for recipes, outcome in ((joins("a :"), "done"), (FAILING.format("a"), "failed")):
            build = Yard(recipes).made("a")
            before = told(build)
            self.assertIsNone(build.cancel())
            self.assertEqual(told(build), before)
            self.assertEqual(build.outcome(), outcome)


class TestTooMany(unittest.TestCase):
    def check_too_many(self, build, ledger, attempts=0):
        self.assertEqual(build.outcome(), "too many")
        self.assertEqual((build.contents(), build.failures(), build.rings(), build.states(), build.ready()),
                         ({}, {}, [], {}, []))
        for name in SIXTY + ["z", "f0.b", "f0.c"]:
            self.assertIsNone(build.job(name))
        self.assertEqual(build.ledger(), ledger)
        self.assertEqual(build.attempt_count(), attempts)
        for attempt in range(attempts):
            self.assertIs(build.finish(attempt), False)
            self.assertIs(build.drop(attempt), False)
            self.assertEqual(build.writes(attempt), [])
            self.assertTrue(build.attempt_job(attempt).startswith("f"))
            self.assertGreater(build.attempt_steps(attempt), 0)
        build.cancel()
        self.assertEqual(build.outcome(), "too many")

    def test_sixty_jobs(self):
        yard = Yard(TRIPLES + "rule *.c :\n put 1 stem\nend")
        build = yard.build(*SIXTY)
        self.assertEqual((build.outcome(), len(build.states()), len(build.ready())), ("going", 60, 20))
        drive(build)
        self.assertEqual((build.outcome(), len(build.contents())), ("done", 60))

    def test_sixty_one_jobs_that_make_inputs(self):
        yard = Yard(TRIPLES + "rule *.c : z\n put 1 stem\nend\n" + joins("z :"))
        self.assertEqual(yard.nothing(*SIXTY).outcome, "too many")
        for keep_going in (True, False):
            self.check_too_many(yard.build(*SIXTY, keep_going=keep_going), [])

    def test_sixty_one_jobs_that_make_goals(self):
        yard = Yard("rule *.a : *.b *.c *.d\n put 1 stem\nend\nrule *.b :\nend\nrule *.c :\nend\nrule *.d :\nend")
        self.check_too_many(yard.build(*SIXTY[:16]), [])
        self.assertEqual(yard.build(*SIXTY[:15]).outcome(), "going")

    def test_missing_goals_are_not_looked_for(self):
        yard = Yard("rule *.a : *.b *.c *.d\n put 1 stem\nend\nrule *.b :\nend\nrule *.c :\nend\nrule *.d :\nend")
        self.check_too_many(yard.build("no", *SIXTY[:16]), [])
        self.assertEqual(yard.build("no", *SIXTY[:15]).ledger(), [("missing", "no")])

    def test_the_sixty_first_job_by_a_held_run(self):
        recipes = TRIPLES + 'rule *.c :\n put 1 read("z")\nend\n' + joins("z :")
        for keep_going in (True, False):
            yard = Yard(recipes)
            build = yard.build(*SIXTY, keep_going=keep_going)
            self.assertEqual(len(build.states()), 60)
            build.start("f3.c")
            build.start("f1.c")
            self.assertIs(build.finish(0), True)
            self.check_too_many(build, [("run", "f3.c", 0, ()), ("run", "f1.c", 1, ()), ("wait", "f3.c", "z")], 2)

    def test_the_sixty_first_job_behind_other_entries(self):
        recipes = TRIPLES + ('rule *.c :\n if same(stem, "f5")\n put 1 read("z")\n else\n put 1 stem\n end\nend\n'
                             + joins("z :"))
        yard = Yard(recipes)
        build = yard.build(*SIXTY, keep_going=True)
        build.finish(build.start("f0.c"))
        build.finish(build.start("f5.c"))
        self.check_too_many(build, [("run", "f0.c", 0, ()), ("ran", "f0.c", 0), ("run", "f5.c", 1, ()),
                                    ("wait", "f5.c", "z")], 2)
        self.assertEqual(yard.tree.read("f0.c"), "f0")

    def test_missing_goals_stay_in_the_ledger(self):
        recipes = ("rule *.a : *.b *.c *.d\n put 1 stem\nend\nrule *.b :\nend\nrule *.c :\nend\n"
                   'rule *.d :\n put 1 read("z")\nend\n' + joins("z :"))
        build = Yard(recipes).build("no", *SIXTY[:15], "no2", keep_going=True)
        self.assertEqual(len(build.states()), 60)
        build.finish(build.start("f0.d"))
        self.check_too_many(build, [("missing", "no"), ("missing", "no2"), ("run", "f0.d", 0, ()),
                                    ("wait", "f0.d", "z")], 1)

    def test_the_sixty_first_job_by_a_record_while_moving(self):
        recipes = TRIPLES + 'rule *.c :\n put 1 read("z")\nend\n' + joins("z :")
        yard = Yard(recipes)
        yard.store.add_record(yard.record("f7.c", (("link", "z", None), ("file", "z", content_key("<z>"))), ("<z>",)))
        self.check_too_many(yard.build(*SIXTY, keep_going=True), [("wait", "f7.c", "z")])
        self.assertEqual(yard.build("no", "f7.c", keep_going=True).ledger(), [("missing", "no"), ("wait", "f7.c", "z")])

    def test_the_sixty_first_job_by_a_record_at_a_start(self):
        recipes = TRIPLES + 'rule *.c :\n put 1 read("z")\nend\n' + joins("z :")
        record = (("link", "z", None), ("file", "z", content_key("<z>")))
        for method in ("start", "start_again"):
            yard = Yard(recipes)
            build = yard.build(*SIXTY)
            ledger = []
            if method == "start_again":
                build.start("f7.c")
                ledger = [("run", "f7.c", 0, ())]
            yard.store.add_record(yard.record("f7.c", record, ("<z>",)))
            self.assertIsNone(getattr(build, method)("f7.c"))
            self.check_too_many(build, ledger + [("wait", "f7.c", "z")], len(ledger))

    def test_a_held_job_that_needs_several_more(self):
        recipes = TRIPLES + 'rule *.c :\n put 1 read("z")\nend\n' + joins("z : y x", "y :", "x :")
        build = Yard(recipes).build(*SIXTY[:19], "y", keep_going=True)
        self.assertEqual(len(build.states()), 58)
        build.finish(build.start("f0.c"))
        self.assertEqual((len(build.states()), build.outcome()), (60, "going"))
        build = Yard(recipes).build(*SIXTY[:19], "q.b", keep_going=True)
        self.assertEqual(len(build.states()), 59)
        build.finish(build.start("f0.c"))
        self.check_too_many(build, [("run", "f0.c", 0, ()), ("wait", "f0.c", "z")], 1)

    def test_a_job_at_which_a_job_is_held_twice_is_needed_once(self):
        recipes = TRIPLES + 'rule *.c :\n put 1 read("z")\nend\n' + joins("z :")
        build = Yard(recipes).build(*SIXTY[:19], "q.b")
        self.assertEqual(len(build.states()), 59)
        drive(build)
        self.assertEqual((build.outcome(), len(build.contents())), ("done", 60))


class TestEarlierCopies(unittest.TestCase):
    def test_a_build_that_is_over_moves_nothing(self):
        yard = Yard(copies(("a", "b")) + joins("b :"))
        build = yard.build("a")
        build.finish(build.start("a"))
        build.cancel()
        before = told(build)
        yard.made("a")
        self.assertEqual(told(build), before)


if __name__ == "__main__":
    unittest.main()
