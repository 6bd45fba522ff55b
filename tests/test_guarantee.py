"""Point 2, the main guarantee, over builds at one host and a hall; points 112, 117, 119, 134, 160 and 162 with it."""

import random
import unittest

from kilnyard.building import Build
from kilnyard.crews import Crew
from kilnyard.reasons import check_entry
from kilnyard.recipes import parse_book
from kilnyard.stores import Store
from tests.helpers import GOALS, RULES, Driver, Yard, change_world, harm, told, write_rules


class TestOneHost(unittest.TestCase):
    def world(self, seed):
        rng = random.Random(seed)
        yard = Yard("", hall=seed % 2 == 0)
        rules = list(RULES)
        rng.shuffle(rules)
        write_rules(lambda path, text: yard.tree.write(path, text, "person"), rules)
        for path, text in (("a.c", "a"), ("b.c", "b"), ("pick", "1"), ("which", "a.o")):
            yard.tree.write(path, text, "person")
        yard.tree.link("ln", "a.c")
        return rng, yard

    def change(self, rng, yard):
        def erase(path):
            if yard.tree.kind(path) != "none":
                yard.tree.erase(path)
        change_world(rng, lambda path, text: yard.tree.write(path, text, "person"), yard.tree.link, erase,
                     yard.settings)

    def test_rounds_of_changes_and_builds(self):
        outcomes = {}
        for seed in range(18):
            rng, yard = self.world(seed)
            for _ in range(8):
                for _ in range(rng.randrange(3)):
                    self.change(rng, yard)
                for _ in range(rng.randrange(3)):
                    harm(rng, rng.choice([yard.store, yard.hall or yard.store]))
                goals = [rng.choice(GOALS) for _ in range(rng.randrange(1, 6))]
                with self.subTest(seed=seed, goals=goals):
                    driver = Driver(self, rng, yard, goals, rng.random() < 0.5)
                    driver.finish()
                    outcomes[driver.build.outcome()] = outcomes.get(driver.build.outcome(), 0) + 1
                    self.check_second_build(yard, driver)
        self.assertEqual(sorted(outcomes), ["done", "failed"])
        self.assertGreater(min(outcomes.values()), 20)

    def check_second_build(self, yard, driver):
        """A second build of the same goals starts no attempt for a job that was done."""
        done = [name for name, state in driver.build.states().items() if state == "done"]
        again = yard.build(*driver.goals, keep_going=driver.keep_going)
        while again.outcome() == "going":
            name = again.ready()[0]
            self.assertNotIn(name, done)
            again.finish(again.start(name))
        if driver.build.outcome() == "done":
            self.assertEqual((again.outcome(), again.attempt_count()), ("done", 0))
            self.assertEqual(again.contents(), driver.build.contents())

    def test_harm_in_the_middle_of_builds(self):
        for seed in range(18):
            rng, yard = self.world(seed)
            for _ in range(5):
                self.change(rng, yard)
                goals = [rng.choice(GOALS) for _ in range(rng.randrange(1, 6))]
                with self.subTest(seed=seed, goals=goals):
                    driver = Driver(self, rng, yard, goals, rng.random() < 0.7)
                    driver.disturbed = True
                    steps = 0
                    while driver.build.outcome() == "going" and steps < 5000:
                        harm(rng, rng.choice([yard.store, yard.hall or yard.store]))
                        driver.step()
                        steps += 1
                    driver.check_end()

    def test_two_hosts_with_one_hall(self):
        for seed in range(18):
            rng, one = self.world(seed)
            _, two = self.world(seed)
            one.hall = two.hall = Store()
            for _ in range(5):
                for yard in (one, two):
                    self.change(rng, yard)
                goals = [rng.choice(GOALS) for _ in range(rng.randrange(1, 6))]
                with self.subTest(seed=seed, goals=goals):
                    drivers = [Driver(self, rng, yard, goals, rng.random() < 0.7) for yard in (one, two)]
                    for driver in drivers:
                        driver.disturbed = True
                    steps = 0
                    while "going" in [driver.build.outcome() for driver in drivers] and steps < 5000:
                        rng.choice(drivers).step()
                        steps += 1
                    for driver in drivers:
                        driver.check_end()

    def test_cancelled_builds_and_jobs_that_are_given_up(self):
        for seed in range(18):
            rng, yard = self.world(seed)
            for _ in range(6):
                self.change(rng, yard)
                goals = [rng.choice(GOALS) for _ in range(rng.randrange(1, 6))]
                driver = Driver(self, rng, yard, goals, rng.random() < 0.7)
                for _ in range(rng.randrange(8)):
                    driver.step()
                if rng.random() < 0.5:
                    driver.build.cancel()
                elif driver.build.outcome() == "going" and driver.build.ready() != []:
                    driver.build.give_up(rng.choice(driver.build.ready()))
                    driver.check()
                for path, text in driver.build.contents().items():
                    self.assertEqual(driver.nothing.contents[path], text)
                again = Driver(self, rng, yard, goals, True)
                again.finish()


class TestOrders(unittest.TestCase):
    """A build that is done has made the same, in whatever order its attempts came, and whoever ran it."""

    def test_crews(self):
        for seed in range(30):
            rng = random.Random(seed)
            results = []
            for _ in range(4):
                _, yard = TestOneHost.world(self, seed)
                goals = ["all", "dir", "dyn", "sum", "s2", "opt", "p", "d/a.x", "two"]
                build = yard.build(*goals, keep_going=rng.random() < 0.5)
                speeds = [rng.randrange(1, 10) for _ in range(rng.randrange(1, 9))]
                crew = Crew(build, speeds, patience=rng.choice([0, 1, 3, 20]), tries=9)
                self.run_crew(rng, crew, len(speeds), yard, build)
                self.assertIn(build.outcome(), ("done", "failed"))
                if build.outcome() == "done":
                    results.append(build.contents())
                    self.assertEqual(build.contents(), yard.nothing(*goals).contents)
            self.assertTrue(results)
            for result in results:
                self.assertEqual(result, results[0])

    def run_crew(self, rng, crew, size, yard, build):
        """Runs a crew to the end of its build with losses, hirings, delays and doubles."""
        entries = 0
        while build.outcome() == "going":
            worker = rng.randrange(size)
            state = crew.worker_state(worker)
            what = rng.randrange(12)
            if state == "gone":
                crew.hire(worker)
            elif what == 0:
                crew.lose(worker)
            elif what == 1 and state == "busy":
                crew.delay(worker, rng.randrange(1, 9))
            elif what == 2 and state == "busy":
                self.assertIn(crew.bring_twice(worker), (0, 1))
            else:
                crew.tick()
                continue
            for entry in build.ledger()[entries:]:
                # A tick makes many calls on the build: only what one call made is checked right behind it.
                if entry[0] == "lost":
                    self.assertTrue(check_entry(entry, build, yard.store, yard.hall))
            entries = len(build.ledger())


class TestBuildersOfOtherTrees(unittest.TestCase):
    def test_a_build_reads_only_its_own_tree(self):
        _, yard = TestOneHost.world(self, 1)
        other = yard.tree.twin()
        build = Build(yard.tree, parse_book(yard.tree), {}, yard.store, None, ["all"])
        other.write("a.c", "other", "person")
        while build.outcome() == "going":
            build.finish(build.start(build.ready()[0]))
        self.assertEqual(build.contents()["all"], "ABm")
        self.assertEqual(other.read("all"), None)
        self.assertEqual(told(build)[0], "done")


if __name__ == "__main__":
    unittest.main()
