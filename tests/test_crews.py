"""Points 130 to 134: crews."""

import itertools
import unittest

from kilnyard.crews import Crew
from kilnyard.refusals import InvalidCrew, InvalidDelay, NoSuchWorker, WorkerGone, WorkerIdle, WorkerThere
from tests.helpers import Yard, copies, joins, told

FAILING = "rule {} :\nfail\nend\n"


def steps(**counts):
    """The recipes of rules without inputs whose tools do so many steps."""
    rules = []
    for name, count in counts.items():
        body = {1: "", 2: ' let x ""\n'}.get(count)
        if body is None:
            lines = " " + "\\n" * (count - 3)
            body = f' each l in "{lines}"\n let x l\n end\n'
        rules.append(f"rule {name} :\n{body} put 1 stem\nend\n")
    return "".join(rules)


class CrewCase(unittest.TestCase):
    def crew(self, recipes, goals, speeds, keep_going=False, hall=False, **options):
        self.yard = Yard(recipes, hall=hall)
        self.build = self.yard.build(*goals.split(), keep_going=keep_going)
        self.crew_size = len(speeds)
        return Crew(self.build, speeds, **options)

    def all_told(self, crew):
        """All that a crew and its build tell."""
        workers = [(crew.worker_state(worker), crew.worker_attempt(worker)) for worker in range(self.crew_size)]
        return crew.clock(), workers, told(self.build), self.yard.all_kept()

    def check_workers(self, crew, *expected):
        """The workers have these attempts, or are in these states."""
        for worker, each in enumerate(expected):
            state, attempt = (each, None) if isinstance(each, str) else ("busy", each)
            self.assertEqual((crew.worker_state(worker), crew.worker_attempt(worker)), (state, attempt), worker)
        with self.assertRaises(NoSuchWorker):
            crew.worker_state(len(expected))

    def check_refused(self, crew, error, method, *arguments, **attributes):
        before = self.all_told(crew)
        with self.assertRaises(error) as caught:
            getattr(crew, method)(*arguments)
        self.assertEqual({name: getattr(caught.exception, name) for name in attributes}, attributes)
        self.assertEqual(self.all_told(crew), before)


class TestCreation(CrewCase):
    def test_crews_that_there_may_be(self):
        for speeds in ([1], [9], [1] * 8, [9, 1, 5]):
            crew = self.crew(joins("a :"), "a", speeds)
            self.assertEqual(crew.clock(), 0)
            self.check_workers(crew, *["idle"] * len(speeds))
            self.assertEqual(self.build.attempt_count(), 0)
        for options in ({"patience": 0}, {"patience": 100}, {"tries": 1}, {"tries": 9}, {"patience": 7, "tries": 2}):
            self.crew(joins("a :"), "a", [1], **options)

    def test_crews_that_there_may_not_be(self):
        build = Yard(joins("a :")).build("a")
        before = told(build)
        for speeds, options in (([], {}), ([1] * 9, {}), ([0], {}), ([10], {}), ([1, 1, 0], {}), ([10, 1], {}),
                                ([-1], {}), ([1], {"patience": -1}), ([1], {"patience": 101}), ([1], {"tries": 0}),
                                ([1], {"tries": 10}), ([1], {"tries": -3})):
            with self.assertRaises(InvalidCrew):
                Crew(build, speeds, **options)
        self.assertEqual(told(build), before)

    def test_the_speeds_are_copied(self):
        speeds = [2]
        build = Yard(steps(a=4)).build("a")
        crew = Crew(build, speeds)
        speeds[0] = 4
        speeds.append(1)
        crew.run(1)
        self.assertEqual(crew.run(9), 2)
        self.assertEqual(speeds, [4, 1])

    def test_patience_and_tries_are_given_by_their_names(self):
        with self.assertRaises(TypeError):
            Crew(Yard(joins("a :")).build("a"), [1], 0)

    def test_workers_that_there_are_not(self):
        crew = self.crew(joins("a :"), "a", [1, 1])
        crew.tick()
        for worker in (-1, 2, 100):
            for method in ("worker_state", "worker_attempt", "lose", "hire", "bring_twice"):
                self.check_refused(crew, NoSuchWorker, method, worker, worker=worker)
            for moments in (1, 0):
                self.check_refused(crew, NoSuchWorker, "delay", worker, moments, worker=worker)


class TestMoments(CrewCase):
    def test_how_long_an_attempt_takes(self):
        for count, speed, moments in ((1, 1, 1), (1, 9, 1), (2, 1, 2), (9, 9, 1), (10, 9, 2), (18, 9, 2), (19, 9, 3),
                                      (5, 2, 3), (6, 2, 3), (7, 2, 4), (30, 7, 5), (40, 1, 40)):
            with self.subTest(steps=count, speed=speed):
                crew = self.crew(steps(a=count), "a", [speed])
                self.assertEqual(crew.tick(), 0)
                self.assertEqual(self.build.attempt_steps(0), count)
                for clock in range(2, moments + 1):
                    self.assertEqual(crew.tick(), 0)
                    self.check_workers(crew, 0)
                    self.assertEqual((crew.clock(), self.build.outcome()), (clock, "going"))
                self.assertEqual(crew.tick(), 1)
                self.assertEqual((crew.clock(), self.build.outcome()), (moments + 1, "done"))
                self.check_workers(crew, "idle")

    def test_a_run_without_steps_takes_one_moment(self):
        crew = self.crew("rule a :\nend", "a", [9])
        crew.tick()
        self.assertEqual(self.build.attempt_steps(0), 0)
        self.check_workers(crew, 0)
        self.assertEqual(crew.tick(), 1)
        self.assertEqual(self.build.failures(), {"a": ("tool", "missing output")})

    def test_idle_workers_are_given_work_in_their_order(self):
        crew = self.crew(joins("c :", "b :", "a :", "d :"), "d c b a", [1, 1, 1])
        crew.tick()
        self.check_workers(crew, 0, 1, 2)
        self.assertEqual([self.build.attempt_job(attempt) for attempt in range(3)], ["a", "b", "c"])

    def test_results_come_before_work(self):
        crew = self.crew(joins("a :", "b : a"), "b", [9])
        self.assertEqual([crew.tick() for _ in range(3)], [0, 1, 1])
        self.assertEqual(self.build.ledger(), [("run", "a", 0, ()), ("ran", "a", 0), ("run", "b", 1, ()),
                                               ("ran", "b", 1)])
        self.assertEqual((crew.clock(), self.build.outcome()), (3, "done"))

    def test_results_are_brought_in_the_order_of_the_workers(self):
        crew = self.crew(steps(a=3, b=2, c=1), "a b c", [3, 2, 1])
        crew.tick()
        self.assertEqual(crew.tick(), 3)
        self.assertEqual([entry[1] for entry in self.build.ledger() if entry[0] == "ran"], ["a", "b", "c"])

    def test_only_the_attempts_that_end_are_finished(self):
        crew = self.crew(steps(a=2, b=1, c=5), "a b c", [1, 1])
        crew.tick()
        self.check_workers(crew, 0, 1)
        self.assertEqual(crew.tick(), 1)
        self.check_workers(crew, 0, 2)
        self.assertEqual(crew.tick(), 1)
        self.check_workers(crew, "idle", 2)
        self.assertEqual(crew.run(99), 4)

    def test_a_job_that_is_done_by_its_start_gives_no_work(self):
        # Records come in between, so that the first two starts give no attempt.
        crew = self.crew(joins("a :", "b :", "c :", "d :"), "a b c d", [1])
        self.yard.made("a", "b")
        crew.tick()
        self.assertEqual([entry[:2] for entry in self.build.ledger()], [("take", "a"), ("take", "b"), ("run", "c")])
        self.check_workers(crew, 0)

    def test_the_job_that_has_the_least_name_then(self):
        # When `b` is taken, `a` becomes ready, and comes before `c`.
        crew = self.crew(joins("a : b", "b :", "c :"), "a c", [1])
        self.yard.made("b")
        crew.tick()
        self.assertEqual([entry[:2] for entry in self.build.ledger()], [("take", "b"), ("run", "a")])

    def test_starts_that_end_the_build(self):
        crew = self.crew(joins("a :", "b :"), "a b", [1, 1])
        self.yard.made("a", "b")
        self.assertEqual(crew.tick(), 0)
        self.assertEqual((self.build.outcome(), self.build.attempt_count(), crew.clock()), ("done", 0, 1))
        self.check_workers(crew, "idle", "idle")

    def test_a_build_that_is_over_when_the_moment_begins(self):
        crew = self.crew(joins("a :"), "a", [1])
        crew.run(99)
        before = self.all_told(crew)
        self.assertEqual((crew.tick(), crew.run(5)), (0, 0))
        self.assertEqual(self.all_told(crew), before)

    def test_a_build_that_is_cancelled_between_two_moments(self):
        crew = self.crew(steps(a=9), "a", [1])
        crew.tick()
        self.build.cancel()
        before = self.all_told(crew)
        self.assertEqual(crew.tick(), 0)
        self.assertEqual(self.all_told(crew), before)
        self.check_workers(crew, 0)

    def test_a_build_that_ends_in_a_moment(self):
        # `a` fails: `b`, which ends at the same moment, is not counted, `d` is not started, and nobody is busy.
        crew = self.crew(FAILING.format("a") + steps(b=1, c=9, d=1), "a b c d", [1, 1, 1])
        crew.tick()
        self.check_workers(crew, 0, 1, 2)
        self.assertEqual(crew.tick(), 1)
        self.check_workers(crew, "idle", "idle", "idle")
        self.assertEqual((self.build.outcome(), self.build.attempt_count()), ("failed", 3))
        self.assertEqual(self.build.states(), {"a": "failed", "b": "running", "c": "running", "d": "ready"})

    def test_a_gone_worker_stays_gone_when_the_build_ends(self):
        crew = self.crew(FAILING.format("a") + steps(b=9), "a b", [1, 1, 1])
        crew.tick()
        crew.lose(2)
        crew.tick()
        self.check_workers(crew, "idle", "idle", "gone")

    def test_a_build_that_keeps_going(self):
        crew = self.crew(FAILING.format("a") + steps(b=1, d=1), "a b d", [1, 1], keep_going=True)
        crew.tick()
        self.assertEqual(crew.tick(), 2)
        self.check_workers(crew, 2, "idle")
        self.assertEqual(crew.run(9), 1)
        self.assertEqual(self.build.outcome(), "failed")

    def test_a_run_that_is_held(self):
        crew = self.crew(copies(("a", "b")) + joins("b :"), "a", [9])
        self.assertEqual([crew.tick() for _ in range(4)], [0, 1, 1, 1])
        self.assertEqual(self.build.contents(), {"a": "<b>", "b": "<b>"})

    def test_run(self):
        crew = self.crew(steps(a=3), "a", [1])
        self.assertEqual((crew.run(0), crew.clock()), (0, 0))
        self.assertEqual((crew.run(2), crew.clock()), (2, 2))
        self.assertEqual((crew.run(99), crew.clock()), (2, 4))
        self.assertEqual(crew.run(99), 0)

    def test_nobody_is_there(self):
        crew = self.crew(joins("a :"), "a", [1, 1], patience=1)
        crew.lose(0)
        crew.lose(1)
        self.assertEqual(crew.run(5), 5)
        self.assertEqual((crew.clock(), self.build.attempt_count()), (5, 0))


class TestHelp(CrewCase):
    def test_without_patience_nobody_helps(self):
        crew = self.crew(steps(a=9), "a", [1, 9])
        crew.run(5)
        self.check_workers(crew, 0, "idle")

    def test_help_comes_when_the_patience_is_over(self):
        for patience in (1, 2, 5):
            crew = self.crew(steps(a=20), "a", [1, 9, 9], patience=patience)
            crew.run(patience)
            self.check_workers(crew, 0, "idle", "idle")
            crew.tick()
            self.check_workers(crew, 0, 1, "idle")
            self.assertEqual(self.build.ledger(), [("run", "a", 0, ()), ("run", "a", 1, ())])
            # Two workers have an attempt of it now.
            crew.tick()
            self.check_workers(crew, 0, 1, "idle")
            self.assertEqual(crew.run(99), 2)
            self.assertEqual(self.build.outcome(), "done")
            self.check_workers(crew, "idle", "idle", "idle")

    def test_the_least_name_is_helped(self):
        crew = self.crew(steps(b=20, a=20), "a b", [1, 1, 1, 1], patience=1)
        crew.tick()
        crew.tick()
        self.check_workers(crew, 0, 1, 2, "idle")
        self.assertEqual(self.build.attempt_job(2), "a")
        crew.tick()
        self.check_workers(crew, 0, 1, 2, 3)
        self.assertEqual(self.build.attempt_job(3), "b")

    def test_only_those_that_began_early_enough_are_helped(self):
        crew = self.crew(steps(b=3, c=20) + joins("a : b"), "a c", [1, 1, 1], patience=3)
        # `b` ends at 4; then `a` would begin, which has the least name, but `c` began at 1.
        crew.run(4)
        self.assertEqual([self.build.attempt_job(crew.worker_attempt(worker)) for worker in (0, 1, 2)],
                         ["a", "c", "c"])

    def test_work_comes_before_help(self):
        crew = self.crew(steps(a=20, b=20, c=20), "a b c", [1, 1, 1], patience=1)
        crew.lose(2)
        crew.run(2)
        crew.hire(2)
        crew.tick()
        self.assertEqual(self.build.attempt_job(crew.worker_attempt(2)), "c")

    def test_the_idle_worker_with_the_least_number_helps(self):
        crew = self.crew(steps(a=20), "a", [1, 1, 1, 1], patience=1)
        crew.lose(1)
        crew.run(2)
        self.check_workers(crew, 0, "gone", 1, "idle")

    def test_a_helper_that_is_left_alone_is_helped(self):
        crew = self.crew(steps(a=30), "a", [1, 1, 1], patience=2)
        crew.run(3)
        self.check_workers(crew, 0, 1, "idle")
        crew.lose(0)
        crew.tick()
        self.check_workers(crew, "gone", 1, "idle")
        crew.tick()
        self.check_workers(crew, "gone", 1, 2)

    def test_attempts_that_do_not_count_are_attempts_too(self):
        crew = self.crew(steps(a=30), "a", [1, 1, 1], patience=2)
        crew.run(3)
        self.build.drop(1)
        crew.run(3)
        self.check_workers(crew, 0, 1, "idle")

    def test_an_attempt_that_does_not_count_is_no_hindrance(self):
        # The only worker of `a` has an attempt that does not count; another attempt counts, which nobody has.
        crew = self.crew(steps(a=30), "a", [1, 1], patience=2)
        crew.tick()
        self.build.start_again("a")
        self.build.drop(0)
        crew.run(2)
        self.check_workers(crew, 0, 2)

    def test_jobs_that_are_not_running_are_not_helped(self):
        crew = self.crew(steps(a=30, b=30), "a b", [1, 1, 1], patience=1)
        crew.tick()
        self.yard.made("a")
        self.assertIsNone(self.build.start_again("a"))
        crew.tick()
        self.assertEqual(self.build.states(), {"a": "done", "b": "running"})
        self.assertEqual([self.build.attempt_job(crew.worker_attempt(worker)) for worker in (0, 1, 2)],
                         ["a", "b", "b"])

    def test_a_job_that_nobody_has_is_not_helped(self):
        crew = self.crew(steps(a=30), "a", [1], patience=1)
        self.build.start("a")
        crew.run(5)
        self.check_workers(crew, "idle")

    def test_help_that_takes_a_record(self):
        crew = self.crew(steps(a=30, b=30), "a b", [1, 1, 1], patience=1)
        crew.tick()
        self.yard.made("a")
        crew.tick()
        self.assertEqual(self.build.ledger()[2:], [("take", "a", "own", 0)])
        # One helps once in a moment: the worker stays idle until the next one.
        self.check_workers(crew, 0, 1, "idle")

    def test_help_that_ends_the_build(self):
        crew = self.crew(steps(a=30), "a", [1, 1], patience=1)
        crew.tick()
        self.yard.made("a")
        self.assertEqual(crew.tick(), 0)
        self.assertEqual(self.build.outcome(), "done")
        self.check_workers(crew, "idle", "idle")

    def test_nobody_helps_when_the_build_is_over(self):
        crew = self.crew(steps(a=30) + 'rule b :\n let x ""\n let y ""\n fail\nend\n', "a b", [1, 1], patience=1)
        crew.run(4)
        self.assertEqual((self.build.outcome(), self.build.attempt_count()), ("failed", 2))
        self.assertEqual(self.build.states(), {"a": "running", "b": "failed"})

    def test_two_results_of_one_job_at_one_moment(self):
        crew = self.crew(steps(a=6, b=20), "a b", [2, 1, 3], patience=1)
        crew.run(2)
        # The first worker ends at 4, and so does the third one.
        self.check_workers(crew, 0, 1, 2)
        crew.run(1)
        self.assertEqual(crew.tick(), 1)
        self.assertEqual(self.build.states()["a"], "done")
        self.check_workers(crew, 3, 1, "idle")


class TestFromOutside(CrewCase):
    def test_an_idle_worker_is_lost(self):
        crew = self.crew(joins("a :"), "a", [1, 1])
        self.assertIsNone(crew.lose(0))
        self.check_workers(crew, "gone", "idle")
        crew.tick()
        self.check_workers(crew, "gone", 0)
        self.check_refused(crew, WorkerGone, "lose", 0, worker=0)

    def test_a_busy_worker_is_lost(self):
        crew = self.crew(steps(a=5), "a", [1, 1])
        crew.tick()
        self.assertIsNone(crew.lose(0))
        self.check_workers(crew, "gone", "idle")
        self.assertEqual(self.build.ledger(), [("run", "a", 0, ()), ("lost", "a", 0)])
        self.assertEqual(self.build.ready(), ["a"])
        crew.tick()
        self.check_workers(crew, "gone", 1)

    def test_a_worker_is_hired(self):
        crew = self.crew(steps(a=5), "a", [1, 1])
        crew.tick()
        crew.lose(0)
        self.assertIsNone(crew.hire(0))
        self.check_workers(crew, "idle", "idle")
        crew.tick()
        self.check_workers(crew, 1, "idle")
        for worker in (0, 1):
            self.check_refused(crew, WorkerThere, "hire", worker, worker=worker)

    def test_as_many_lost_tries_as_the_crew_allows(self):
        for tries, options in ((1, {"tries": 1}), (2, {"tries": 2}), (3, {}), (9, {"tries": 9})):
            crew = self.crew(steps(a=5), "a", [1], **options)
            for attempt in range(tries):
                self.assertEqual(self.build.outcome(), "going")
                crew.tick()
                self.check_workers(crew, attempt)
                crew.lose(0)
                crew.hire(0)
            self.assertEqual(self.build.failures(), {"a": ("lost", "a")})
            self.assertEqual(self.build.ledger()[-2:], [("lost", "a", tries - 1), ("fail", "a", "lost", "a")])
            self.assertEqual(self.build.outcome(), "failed")

    def test_lost_tries_are_counted_for_each_job(self):
        crew = self.crew(steps(a=5, b=5), "a b", [1, 1], keep_going=True, tries=2)
        crew.tick()
        crew.lose(0)
        crew.lose(1)
        self.assertEqual(self.build.ready(), ["a", "b"])
        crew.hire(0)
        crew.tick()
        crew.lose(0)
        self.assertEqual(self.build.failures(), {"a": ("lost", "a")})
        self.assertEqual(self.build.ready(), ["b"])

    def test_a_lost_attempt_beside_another_one_is_no_lost_try(self):
        crew = self.crew(steps(a=30), "a", [1, 1], tries=1, patience=1)
        crew.run(2)
        self.check_workers(crew, 0, 1)
        crew.lose(0)
        self.assertEqual(self.build.states(), {"a": "running"})
        crew.lose(1)
        self.assertEqual(self.build.failures(), {"a": ("lost", "a")})

    def test_a_lost_attempt_that_does_not_count_is_no_lost_try(self):
        crew = self.crew(steps(a=30, b=3), "a b", [1, 1], tries=1)
        crew.tick()
        self.build.drop(0)
        crew.lose(0)
        self.assertEqual((self.build.ready(), self.build.failures()), (["a"], {}))

    def test_losing_a_worker_of_a_build_that_is_over(self):
        crew = self.crew(steps(a=30), "a", [1], tries=1)
        crew.tick()
        self.build.cancel()
        before = told(self.build)
        crew.lose(0)
        self.check_workers(crew, "gone")
        crew.hire(0)
        self.check_workers(crew, "idle")
        self.assertEqual(told(self.build), before)

    def test_giving_up_leaves_the_others_as_they_are(self):
        crew = self.crew(steps(a=30, b=30), "a b", [1, 1], tries=1)
        crew.tick()
        crew.lose(0)
        self.assertEqual(self.build.outcome(), "failed")
        self.check_workers(crew, "gone", 1)
        self.assertEqual(crew.tick(), 0)
        self.check_workers(crew, "gone", 1)

    def test_delays(self):
        for moments in (1, 2, 100):
            crew = self.crew(steps(a=3), "a", [1])
            crew.tick()
            self.assertIsNone(crew.delay(0, moments))
            self.assertEqual(crew.run(999), 3 + moments)
        crew = self.crew(steps(a=3), "a", [1])
        crew.tick()
        crew.delay(0, 4)
        crew.delay(0, 6)
        self.assertEqual(crew.run(999), 13)

    def test_delays_that_there_are_not(self):
        crew = self.crew(steps(a=3), "a", [1, 1, 1])
        crew.tick()
        crew.lose(2)
        for moments in (0, -1, 101, 1000):
            self.check_refused(crew, InvalidDelay, "delay", 0, moments, moments=moments)
        for worker in (1, 2):
            for moments in (1, 0):
                self.check_refused(crew, WorkerIdle, "delay", worker, moments, worker=worker)

    def test_a_result_is_brought_twice(self):
        crew = self.crew(steps(a=9, b=2), "a b", [1])
        crew.tick()
        self.assertEqual(crew.bring_twice(0), 1)
        self.check_workers(crew, "idle")
        self.assertEqual(self.build.states(), {"a": "done", "b": "ready"})
        self.assertEqual((crew.clock(), self.build.ledger()), (1, [("run", "a", 0, ()), ("ran", "a", 0)]))
        self.assertEqual(self.yard.store.record_count(), 1)
        crew.tick()
        self.check_workers(crew, 1)

    def test_a_result_that_does_not_count_is_brought_twice(self):
        crew = self.crew(steps(a=9, b=9), "a b", [1, 1])
        crew.tick()
        self.build.drop(0)
        self.assertEqual(crew.bring_twice(0), 0)
        self.build.cancel()
        self.assertEqual(crew.bring_twice(1), 0)
        self.check_workers(crew, "idle", "idle")

    def test_only_busy_workers_bring_twice(self):
        crew = self.crew(steps(a=3), "a", [1, 1, 1])
        crew.tick()
        crew.lose(2)
        for worker in (1, 2):
            self.check_refused(crew, WorkerIdle, "bring_twice", worker, worker=worker)

    def test_bringing_twice_ends_the_build(self):
        crew = self.crew(FAILING.format("a") + steps(b=9), "a b", [1, 1])
        crew.tick()
        self.assertEqual(crew.bring_twice(0), 1)
        self.check_workers(crew, "idle", 1)
        self.assertEqual(self.build.outcome(), "failed")


class TestNoInfluence(CrewCase):
    """Point 134: the contents do not depend on what a crew does."""

    RECIPES = ('rule *.x : *.y\n put 1 read(stem + ".y") + read("c")\nend\nrule *.y :\n let z upper(stem)\n'
               ' put 1 z\nend\nrule c :\n each l in "1+2"\n let z l\n end\n put 1 read("d")\nend\n'
               'rule d :\n put 1 "d"\nend\n')
    GOALS = "a.x b.x c e.x"

    def test_crews_of_all_kinds(self):
        expected = None
        for speeds, patience, trouble in itertools.product(
                ([1], [9], [1, 9], [2, 3, 4, 5, 6, 7, 8, 9], [1] * 8), (0, 1, 3), (0, 1, 2, 3)):
            with self.subTest(speeds=speeds, patience=patience, trouble=trouble):
                crew = self.crew(self.RECIPES, self.GOALS, speeds, patience=patience, tries=9, hall=True)
                while self.build.outcome() == "going":
                    crew.tick()
                    self.disturb(crew, trouble)
                self.assertEqual(self.build.outcome(), "done")
                expected = expected or self.build.contents()
                self.assertEqual(self.build.contents(), expected)
                self.assertEqual(self.yard.nothing(*self.GOALS.split()).contents, expected)

    def disturb(self, crew, trouble):
        """Loses, hires, delays or doubles now and then, the last worker most of all."""
        worker = self.crew_size - 1 - crew.clock() // 4 % self.crew_size
        if crew.worker_state(worker) == "gone":
            crew.hire(worker)
        elif trouble == 1 and crew.clock() % 3 == 0 and crew.clock() < 12:
            crew.lose(worker)
        elif trouble == 2 and crew.worker_state(worker) == "busy":
            crew.bring_twice(worker)
        elif trouble == 3 and crew.worker_state(worker) == "busy" and crew.clock() % 2 == 0 and crew.clock() < 20:
            crew.delay(worker, 2)


if __name__ == "__main__":
    unittest.main()
