"""Point 2, the main guarantee, on houses: rounds of deeds, harm, crashes and builds at several hosts with one hall."""

import random
import unittest

from kilnyard.changes import changed_paths
from kilnyard.cleaning import clean, strays, sweep
from kilnyard.houses import House
from kilnyard.journals import Journal, read_journal
from kilnyard.saving import load_store, load_tree, save_store, save_tree
from tests.helpers import GOALS, RULES, Driver, Yard, change_world, harm, kept, write_rules


class HouseYard(Yard):
    """A host of a house, as a yard for one build."""

    def __init__(self, house, host):
        self.house = house
        self.host = host
        self.hall = house.hall() if house.shares(host) else None

    @property
    def tree(self):
        return self.house.tree(self.host)

    @property
    def store(self):
        return self.house.store(self.host)

    @property
    def settings(self):
        return self.house.settings(self.host)

    def build(self, *goals, keep_going=False):
        return self.house.begin(self.host, list(goals), keep_going=keep_going)


class TestHouses(unittest.TestCase):
    def setUp(self):
        self.told = {}

    def count(self, word):
        self.told[word] = self.told.get(word, 0) + 1

    def house(self, rng):
        """A house with the same recipes and files at each host, in some order of the rules."""
        house = House(rng.randrange(1, 5))
        rules = list(RULES)
        rng.shuffle(rules)
        for host in range(house.host_count()):
            write_rules(lambda path, text, host=host: house.write(host, path, text), rules)
            for path, text in (("a.c", "a"), ("b.c", "b"), ("pick", "1"), ("which", "a.o")):
                house.write(host, path, text)
            house.link(host, "ln", "a.c")
            house.share(host, rng.random() < 0.7)
        return house

    def deed(self, rng, house, host):
        """A deed of a person at a host."""
        def erase(path):
            if house.tree(host).kind(path) != "none":
                house.erase(host, path)
        settings = house.settings(host)
        change_world(rng, lambda path, text: house.write(host, path, text),
                     lambda path, target: house.link(host, path, target), erase, settings)
        for name in house.settings(host):
            if name not in settings:
                house.unset(host, name)
        for name, text in settings.items():
            house.set_text(host, name, text)

    def trouble(self, rng, house, host):
        """Something that comes from outside, while no build of the host is going."""
        what = rng.randrange(9)
        journal = house.journal(host)
        if what == 0:
            harm(rng, house.hall())
        elif what == 1:
            harm(rng, house.store(host))
        elif what == 2:
            journal.cut(rng.randrange(len(journal.text()) + 1))
        elif what == 3:
            house.crash(host)
            self.restart(house, host)
        elif what == 4:
            house.share(host, rng.random() < 0.7)
        elif what == 5:
            sweep(house.tree(host), HouseYard(house, host).book)
            self.assertEqual(strays(house.tree(host), HouseYard(house, host).book), [])
        elif what == 6:
            clean(house.store(host), HouseYard(house, host).book)
        elif what == 7:
            self.assertEqual(kept(load_store(save_store(house.store(host)))), kept(house.store(host)))
            self.assertEqual(load_tree(save_tree(house.tree(host))).entries, house.tree(host).entries)
        else:
            path = rng.choice(house.tree(host).paths())
            if house.tree(host).writer(path) == "build":
                house.erase(host, path)

    def restart(self, house, host):
        """Restarts a host: its store is what its journal tells."""
        expected = kept(read_journal(Journal(house.journal(host).text())))
        self.assertEqual(house.restart(host), len(expected[1]))
        self.assertEqual(kept(house.store(host)), expected)

    def round(self, rng, house, host):
        """Begins a build at a host, and drives it until it is over or the host crashes."""
        goals = [rng.choice(GOALS) for _ in range(rng.randrange(1, 6))]
        before = house.tree(host).twin()
        driver = Driver(self, rng, HouseYard(house, host), goals, rng.random() < 0.6)
        driver.disturbed = True
        crash = rng.randrange(40)
        while driver.build.outcome() == "going":
            driver.step()
            if rng.random() < 0.05:
                harm(rng, rng.choice([house.hall(), house.store(host)]))
            if crash == 0 and driver.build.outcome() == "going":
                self.crash(rng, house, host, driver.build)
                return
            crash -= 1
        driver.check_end()
        self.count(driver.build.outcome())
        # A build writes files of builds alone, and only where jobs make them.
        made = driver.build.contents()
        self.assertTrue(set(changed_paths(before, house.tree(host))) <= set(made))

    def crash(self, rng, house, host, build):
        """Crashes a host while its build is going, maybe in the middle of a finish."""
        self.count("crash")
        if build.attempt_count() > 0 and rng.random() < 0.8:
            house.crash_in(host, rng.randrange(build.attempt_count()), rng.randrange(8), rng.randrange(90))
        else:
            house.crash(host)
        self.assertEqual(build.outcome(), "cancelled")
        self.restart(house, host)

    def test_rounds(self):
        for seed in range(24):
            rng = random.Random(seed)
            house = self.house(rng)
            for _ in range(12):
                with self.subTest(seed=seed):
                    host = rng.randrange(house.host_count())
                    for _ in range(rng.randrange(3)):
                        self.deed(rng, house, host)
                    for _ in range(rng.randrange(3)):
                        self.trouble(rng, house, host)
                    self.round(rng, house, host)
        for word in ("done", "failed", "crash"):
            self.assertGreater(self.told[word], 10)

    def test_builds_at_several_hosts_at_once(self):
        for seed in range(12):
            rng = random.Random(seed)
            house = self.house(rng)
            for _ in range(4):
                goals = [rng.choice(GOALS) for _ in range(rng.randrange(1, 6))]
                drivers = []
                for host in range(house.host_count()):
                    self.deed(rng, house, host)
                    house.share(host, rng.random() < 0.8)
                    drivers.append(Driver(self, rng, HouseYard(house, host), goals, rng.random() < 0.6))
                    drivers[-1].disturbed = True
                steps = 0
                while "going" in [driver.build.outcome() for driver in drivers]:
                    rng.choice(drivers).step()
                    steps += 1
                    self.assertLess(steps, 20000)
                for driver in drivers:
                    driver.check_end()

    def test_a_done_build_outlives_a_crash(self):
        for seed in range(20):
            rng = random.Random(seed)
            house = self.house(rng)
            goals = ["all", "dir", "s1", "opt", "d/a.x"]
            driver = Driver(self, rng, HouseYard(house, 0), goals, False)
            driver.finish()
            self.assertEqual(driver.build.outcome(), "done")
            house.crash(0)
            self.restart(house, 0)
            again = house.begin(0, goals)
            self.assertEqual((again.outcome(), again.attempt_count()), ("done", 0))
            self.assertEqual(again.contents(), driver.build.contents())


if __name__ == "__main__":
    unittest.main()
