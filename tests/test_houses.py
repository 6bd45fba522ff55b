"""Points 170 to 175: houses."""

import unittest

from kilnyard.errors import InvalidContent, InvalidPath, InvalidRecipe, NoEntry, TreeFull
from kilnyard.houses import House
from kilnyard.journals import content_line, record_line
from kilnyard.keys import content_key
from kilnyard.refusals import (HostBusy, HostDown, HostUp, InvalidCount, InvalidGoals, InvalidHouse, InvalidSetting,
                               NoBuild, NoSuchAttempt, NoSuchHost)
from tests.helpers import copies, drive, joins, kept, told

RECIPES = 'rule b a : s\n put 1 upper(read("s"))\n put 2 "same"\nend\n'


class HouseCase(unittest.TestCase):
    def house(self, count=1, recipes=RECIPES, **files):
        """A house whose hosts all have the same recipes and files."""
        house = House(count)
        for host in range(count):
            house.write(host, "rules", recipes)
            for path, text in (files or {"s": "x"}).items():
                house.write(host, path, text)
        return house

    def all_of(self, house):
        """All that a house has and tells."""
        state = [kept(house.hall()), house.host_count()]
        for host in range(house.host_count()):
            state += [house.is_up(host), house.shares(host), house.settings(host), house.journal(host).text(),
                      dict(house.tree(host).entries)]
            if house.is_up(host):
                state.append(kept(house.store(host)))
            try:
                state.append((id(house.build(host)), told(house.build(host))))
            except NoBuild:
                state.append(None)
        return state

    def check_refused(self, house, error, method, *arguments, options=None, **attributes):
        before = self.all_of(house)
        with self.assertRaises(error) as caught:
            getattr(house, method)(*arguments, **(options or {}))
        self.assertEqual({name: getattr(caught.exception, name) for name in attributes}, attributes)
        self.assertEqual(self.all_of(house), before)


class TestHosts(HouseCase):
    def test_one_to_four_hosts(self):
        for count in (1, 2, 3, 4):
            house = House(count)
            self.assertEqual(house.host_count(), count)
            for host in range(count):
                self.assertIs(house.is_up(host), True)
                self.assertIs(house.shares(host), False)
                self.assertEqual(house.settings(host), {})
                self.assertEqual(house.tree(host).paths(), [])
                self.assertEqual(house.journal(host).text(), "")
                self.assertEqual(kept(house.store(host)), ({}, []))
                self.assertIs(house.store(host).journal, house.journal(host))
                self.check_refused(house, NoBuild, "build", host, host=host)
            self.assertEqual(kept(house.hall()), ({}, []))
            self.assertIsNone(house.hall().journal)

    def test_other_counts(self):
        for count in (0, 5, -1, 100):
            with self.assertRaises(InvalidHouse) as caught:
                House(count)
            self.assertEqual(caught.exception.count_of_hosts, count)

    def test_hosts_have_their_own(self):
        house = self.house(2)
        house.write(0, "s", "0")
        house.set_text(0, "n", "0")
        self.assertEqual((house.tree(1).read("s"), house.settings(1)), ("x", {}))
        drive(house.begin(0, ["a"]))
        self.assertEqual((kept(house.store(1)), house.journal(1).text()), (({}, []), ""))
        self.check_refused(house, NoBuild, "build", 1, host=1)

    def test_the_objects_themselves_are_returned(self):
        house = self.house()
        self.assertIs(house.hall(), house.hall())
        for method in ("store", "journal", "tree"):
            self.assertIs(getattr(house, method)(0), getattr(house, method)(0))
        house.hall().put_content("t")
        house.store(0).put_content("t")
        self.assertTrue(house.hall().has_content(content_key("t")))
        self.assertEqual(house.journal(0).text(), content_line("t"))

    def test_hosts_that_there_are_not(self):
        house = self.house(2)
        calls = {"write": ("a", "t"), "erase": ("a",), "link": ("a", "b"), "set_text": ("a", "t"), "unset": ("a",),
                 "share": (True,), "shares": (), "begin": (["a"],), "build": (), "crash": (), "crash_in": (0, 0, 0),
                 "restart": (), "store": (), "journal": (), "tree": (), "is_up": (), "settings": ()}
        for method, arguments in calls.items():
            for host in (2, -1, 100):
                self.check_refused(house, NoSuchHost, method, host, *arguments, host=host)

    def test_hosts_that_are_down(self):
        house = self.house(2)
        house.crash(1)
        calls = {"write": ("A", "t"), "erase": ("a",), "link": ("A", "b"), "set_text": ("A", "t"), "unset": ("a",),
                 "begin": ([],), "crash": (), "crash_in": (0, -1, -1), "store": ()}
        for method, arguments in calls.items():
            self.check_refused(house, HostDown, method, 1, *arguments, host=1)
        self.check_refused(house, NoBuild, "build", 1, host=1)
        self.assertEqual(house.tree(1).read("s"), "x")
        self.assertEqual((house.journal(1).text(), house.settings(1), house.shares(1)), ("", {}, False))


class TestDeeds(HouseCase):
    def test_files_and_links(self):
        house = House(1)
        self.assertIsNone(house.write(0, "a", "t"))
        self.assertIsNone(house.link(0, "b", "a"))
        self.assertEqual(house.tree(0).entries, {"a": ("file", "t", "person"), "b": ("link", "a")})
        self.assertIsNone(house.erase(0, "b"))
        self.assertEqual(house.tree(0).entries, {"a": ("file", "t", "person")})

    def test_what_the_tree_raises(self):
        house = self.house()
        self.check_refused(house, InvalidPath, "write", 0, "A", "%", path="A")
        self.check_refused(house, InvalidContent, "write", 0, "a", "%", path="a")
        self.check_refused(house, InvalidContent, "write", 0, "a", "x" * 401, path="a")
        self.check_refused(house, InvalidPath, "link", 0, "A", "B", path="A")
        self.check_refused(house, InvalidPath, "link", 0, "a", "B", path="B")
        self.check_refused(house, NoEntry, "erase", 0, "a", path="a")
        for at in range(58):
            house.write(0, f"f{at}", "")
        self.check_refused(house, TreeFull, "write", 0, "g", "", path="g")
        self.check_refused(house, TreeFull, "link", 0, "g", "s", path="g")

    def test_settings(self):
        house = House(1)
        self.assertIsNone(house.set_text(0, "mode", "1"))
        house.set_text(0, "mode", "x" * 400)
        house.set_text(0, "n", "")
        self.assertEqual(house.settings(0), {"mode": "x" * 400, "n": ""})
        self.assertIsNone(house.unset(0, "mode"))
        self.assertEqual(house.settings(0), {"n": ""})
        house.settings(0)["n"] = "2"
        house.settings(0).clear()
        self.assertEqual(house.settings(0), {"n": ""})

    def test_settings_that_may_not_be(self):
        house = self.house()
        for name in ("", "A", "1a", "a" * 13, "a.b", "_a"):
            self.check_refused(house, InvalidSetting, "set_text", 0, name, "%", name=name)
            self.check_refused(house, InvalidSetting, "unset", 0, name, name=name)
        for text in ("%", "x" * 401, "\t"):
            self.check_refused(house, InvalidContent, "set_text", 0, "mode", text, path="mode")
        self.check_refused(house, InvalidSetting, "unset", 0, "mode", name="mode")
        house.set_text(0, "mode", "")
        house.unset(0, "mode")
        self.check_refused(house, InvalidSetting, "unset", 0, "mode", name="mode")

    def test_the_default_of_a_book_is_no_own_text(self):
        house = self.house(recipes='set mode "m"\nrule a :\n put 1 setting("mode")\nend')
        self.check_refused(house, InvalidSetting, "unset", 0, "mode", name="mode")
        self.assertEqual(house.settings(0), {})

    def test_a_host_whose_build_is_going(self):
        house = self.house(2)
        house.set_text(0, "mode", "")
        build = house.begin(0, ["a"])
        calls = {"write": ("A", "t"), "erase": ("z",), "link": ("A", "b"), "set_text": ("A", "%"), "unset": ("z",),
                 "begin": ([],)}
        for method, arguments in calls.items():
            self.check_refused(house, HostBusy, method, 0, *arguments, host=0)
        house.write(1, "t", "")
        build.cancel()
        house.write(0, "t", "")
        house.unset(0, "mode")
        build = house.begin(0, ["a"])
        self.check_refused(house, HostBusy, "erase", 0, "t", host=0)
        drive(build)
        house.erase(0, "t")

    def test_a_host_with_a_build_that_has_failed(self):
        house = self.house(recipes="rule a :\nfail\nend")
        drive(house.begin(0, ["a"]))
        house.write(0, "t", "")
        self.assertEqual(house.build(0).outcome(), "failed")


class TestBuilds(HouseCase):
    def test_a_build_with_what_the_host_has(self):
        house = self.house(recipes='rule a : s\n put 1 read("s") + setting("mode")\nend\n')
        house.set_text(0, "mode", "1")
        build = house.begin(0, ["a"])
        self.assertIs(house.build(0), build)
        self.assertIs(build.view().tree, house.tree(0))
        self.assertEqual(build.view().settings, {"mode": "1"})
        drive(build)
        self.assertEqual(build.contents(), {"a": "x1"})
        self.assertEqual(house.tree(0).entries["a"], ("file", "x1", "build"))
        self.assertEqual(house.store(0).record_count(), 1)
        record = house.store(0).record(0)
        self.assertEqual(house.journal(0).text(), content_line("x1") + record_line(record))
        self.assertEqual(kept(house.hall()), ({}, []))
        self.assertIs(house.build(0), build)

    def test_the_book_is_read_when_a_build_begins(self):
        house = self.house()
        drive(house.begin(0, ["a"]))
        house.write(0, "rules", 'rule a :\n put 1 "new"\nend')
        drive(house.begin(0, ["a"]))
        self.assertEqual(house.tree(0).read("a"), "new")

    def test_keep_going(self):
        recipes = "rule a :\nfail\nend\n" + joins("b :")
        for options, outcome in (({}, "failed"), ({"keep_going": False}, "failed"), ({"keep_going": True}, "going")):
            house = self.house(recipes=recipes)
            build = house.begin(0, ["a", "b"], **options)
            build.finish(build.start("a"))
            self.assertEqual(build.outcome(), outcome)
        with self.assertRaises(TypeError):
            self.house().begin(0, ["a"], True)

    def test_what_a_begin_raises(self):
        house = House(1)
        self.check_refused(house, InvalidRecipe, "begin", 0, [], path="rules", line=1, column=1, reason="missing file")
        house.write(0, "rules", "rule a")
        self.check_refused(house, InvalidRecipe, "begin", 0, [], line=1, column=7, reason="missing token")
        house = self.house()
        build = house.begin(0, ["a"])
        drive(build)
        self.check_refused(house, InvalidGoals, "begin", 0, [], count_of_goals=0)
        self.check_refused(house, InvalidPath, "begin", 0, ["a", "A"], path="A")
        self.assertIs(house.build(0), build)

    def test_the_limit_of_the_goals_is_that_of_the_list_as_it_is_given(self):
        house = self.house()
        self.check_refused(house, InvalidGoals, "begin", 0, ["a", "s"] * 11 + ["a"], count_of_goals=23)
        self.check_refused(house, InvalidGoals, "begin", 0, ["A"] * 21, count_of_goals=21)
        self.check_refused(house, InvalidPath, "begin", 0, ["a"] * 19 + ["A"], path="A")
        build = house.begin(0, ["a", "s"] * 10)
        self.assertEqual(build.states(), {"b": "ready"})
        drive(build)
        self.assertEqual((build.outcome(), build.attempt_count()), ("done", 1))

    def test_the_build_that_was_begun_latest(self):
        house = self.house()
        first = house.begin(0, ["a"])
        first.cancel()
        second = house.begin(0, ["a"])
        self.assertIsNot(first, second)
        self.assertIs(house.build(0), second)


class TestSharing(HouseCase):
    def test_a_hall_that_is_shared(self):
        house = self.house(2)
        self.assertIsNone(house.share(0, True))
        self.assertEqual((house.shares(0), house.shares(1)), (True, False))
        drive(house.begin(0, ["a"]))
        self.assertEqual(kept(house.hall()), kept(house.store(0)))
        self.assertEqual(house.begin(1, ["a"]).ready(), ["b"])
        house.build(1).cancel()
        house.share(1, True)
        build = house.begin(1, ["a"])
        self.assertEqual((build.outcome(), build.ledger()), ("done", [("take", "b", "hall", 0)]))
        self.assertEqual(house.journal(1).text(), content_line("X") + content_line("same"))
        self.assertEqual(house.store(1).record_count(), 0)

    def test_sharing_has_an_effect_on_later_builds(self):
        house = self.house()
        build = house.begin(0, ["a"])
        house.share(0, True)
        drive(build)
        self.assertEqual(kept(house.hall()), ({}, []))
        house.write(0, "s", "y")
        build = house.begin(0, ["a"])
        house.share(0, False)
        self.assertIs(house.shares(0), False)
        drive(build)
        self.assertEqual(house.hall().record_count(), 1)
        house.write(0, "s", "z")
        drive(house.begin(0, ["a"]))
        self.assertEqual((house.hall().record_count(), house.store(0).record_count()), (1, 3))

    def test_a_host_that_is_down_may_be_told_to_share(self):
        house = self.house(2)
        house.crash(0)
        for on in (True, False, True):
            self.assertIsNone(house.share(0, on))
            self.assertIs(house.shares(0), on)
        house.restart(0)
        self.assertIs(house.shares(0), True)
        drive(house.begin(0, ["a"]))
        self.assertEqual(house.hall().record_count(), 1)


class TestCrashes(HouseCase):
    def test_what_stays(self):
        house = self.house()
        house.share(0, True)
        house.set_text(0, "mode", "1")
        drive(house.begin(0, ["a"]))
        tree, journal = house.tree(0), house.journal(0)
        before = (dict(tree.entries), journal.text())
        hall = kept(house.hall())
        self.assertIsNone(house.crash(0))
        self.assertIs(house.is_up(0), False)
        self.assertIs(house.tree(0), tree)
        self.assertIs(house.journal(0), journal)
        self.assertEqual((dict(tree.entries), journal.text()), before)
        self.assertEqual((house.settings(0), house.shares(0), kept(house.hall())), ({"mode": "1"}, True, hall))
        self.check_refused(house, NoBuild, "build", 0, host=0)
        self.check_refused(house, HostDown, "store", 0, host=0)
        self.check_refused(house, HostDown, "crash", 0, host=0)

    def test_a_build_that_was_going(self):
        house = self.house(recipes=joins("a : b", "b :"))
        house.share(0, True)
        build = house.begin(0, ["a"])
        build.start("b")
        states = build.states()
        house.crash(0)
        self.assertEqual((build.outcome(), build.states(), build.contents()), ("cancelled", states, {}))
        before = self.all_of(house)
        self.assertIs(build.finish(0), False)
        self.assertIs(build.drop(0), False)
        self.assertEqual(build.writes(0), [])
        self.assertEqual(self.all_of(house), before)
        house.restart(0)
        before = self.all_of(house)
        self.assertIs(build.finish(0), False)
        self.assertEqual(self.all_of(house), before)

    def test_a_build_that_was_over(self):
        house = self.house()
        build = house.begin(0, ["a"])
        drive(build)
        before = told(build)
        house.crash(0)
        self.assertEqual(told(build), before)

    def test_a_host_that_has_begun_nothing(self):
        house = House(2)
        house.crash(0)
        self.assertEqual((house.is_up(0), house.is_up(1)), (False, True))

    def test_restart(self):
        house = self.house()
        drive(house.begin(0, ["a"]))
        store = house.store(0)
        self.check_refused(house, HostUp, "restart", 0, host=0)
        house.crash(0)
        self.assertEqual(house.restart(0), 1)
        self.assertIs(house.is_up(0), True)
        self.assertIsNot(house.store(0), store)
        self.assertEqual(kept(house.store(0)), kept(store))
        self.assertIs(house.store(0).journal, house.journal(0))
        self.check_refused(house, NoBuild, "build", 0, host=0)
        build = house.begin(0, ["a"])
        self.assertEqual((build.outcome(), build.attempt_count()), ("done", 0))
        self.assertIs(house.build(0), build)

    def test_a_restart_from_an_empty_journal(self):
        house = self.house()
        house.crash(0)
        self.assertEqual((house.restart(0), kept(house.store(0))), (0, ({}, [])))
        drive(house.begin(0, ["a"]))
        house.journal(0).cut(0)
        house.crash(0)
        self.assertEqual((house.restart(0), kept(house.store(0))), (0, ({}, [])))
        # The results lie in the tree, but no record tells of them.
        self.assertEqual(house.begin(0, ["a"]).ready(), ["b"])

    def test_a_restart_from_a_journal_that_is_cut_anywhere(self):
        lines = [content_line("X"), content_line("same")]
        house = self.house()
        drive(house.begin(0, ["a"]))
        text = house.journal(0).text()
        self.assertTrue(text.startswith("".join(lines)))
        for length in range(len(text) + 1):
            house = self.house()
            drive(house.begin(0, ["a"]))
            house.journal(0).cut(length)
            house.crash(0)
            whole = length == len(text)
            self.assertEqual(house.restart(0), 1 if whole else 0)
            ends = [0, len(lines[0]), len("".join(lines)), len(text)]
            self.assertEqual(len(house.journal(0).text()), max([end for end in ends if end <= length]))
            build = house.begin(0, ["a"])
            drive(build)
            self.assertEqual((build.attempt_count(), build.contents()), (0 if whole else 1, {"b": "X", "a": "same"}))

    def test_losses_do_not_outlive_a_crash(self):
        house = self.house()
        drive(house.begin(0, ["a"]))
        before = kept(house.store(0))
        house.store(0).lose_content(content_key("X"))
        house.store(0).damage_content(content_key("same"), "x")
        house.store(0).lose_record(0)
        house.crash(0)
        self.assertEqual(house.restart(0), 1)
        self.assertEqual(kept(house.store(0)), before)


class TestCrashesInAFinish(HouseCase):
    def crashed(self, count, extra, shared=True, whole=()):
        """A house that crashed in the middle of a finish, the writes of this finish, and what was there before."""
        house = self.house()
        house.share(0, shared)
        for text in whole:
            house.store(0).put_content(text)
        build = house.begin(0, ["a"])
        attempt = build.start("b")
        writes = build.writes(attempt)
        before = house.journal(0).text()
        self.assertIsNone(house.crash_in(0, attempt, count, extra))
        self.assertIs(house.is_up(0), False)
        self.assertEqual((build.outcome(), build.contents(), build.states()), ("cancelled", {}, {"b": "running"}))
        self.assertIs(build.finish(attempt), False)
        return house, writes, before

    def line(self, write):
        """The line of a write in the journal."""
        return {"content": content_line, "record": record_line}.get(write[0], lambda _: "")(write[1])

    def check(self, count, extra, shared=True):
        house, writes, before = self.crashed(count, extra, shared)
        done, following = writes[:count], writes[count:count + 1]
        journal = before + "".join([self.line(write) for write in done])
        journal += "".join([self.line(write)[:extra] for write in following])
        self.assertEqual(house.journal(0).text(), journal)
        hall = [each[1] for each in done if each[0] == "hall content"]
        self.assertEqual(list(house.hall().kept_texts().values()), hall)
        self.assertEqual(house.hall().record_count(), len([each for each in done if each[0] == "hall record"]))
        files = {each[1]: each[2] for each in done if each[0] == "file"}
        tree = house.tree(0)
        self.assertEqual({path: tree.read(path) for path in tree.paths() if tree.writer(path) == "build"}, files)
        whole = [write for write in writes if write[0] == "record" and self.line(write) in journal]
        self.assertEqual(house.restart(0), len(whole))
        build = house.begin(0, ["a"])
        self.assertEqual(build.outcome(), "done" if whole or house.hall().record_count() and shared else "going")
        drive(build)
        self.assertEqual((build.outcome(), build.contents()), ("done", {"b": "X", "a": "same"}))

    def test_behind_each_number_of_writes(self):
        for shared, writes in ((True, 8), (False, 5)):
            self.assertEqual(len(self.crashed(0, 0, shared)[1]), writes)
            for count in range(writes + 3):
                for extra in (0, 1, 5, 1000):
                    with self.subTest(shared=shared, count=count, extra=extra):
                        self.check(count, extra, shared)

    def test_with_each_number_of_characters(self):
        for count in (0, 1, 2):
            for extra in range(130):
                with self.subTest(count=count, extra=extra):
                    self.check(count, extra)

    def test_a_content_that_the_store_has_whole(self):
        # The first write is done by writing nothing, and so is the second one with any number of characters.
        for extra in (0, 1, 1000):
            house, _, before = self.crashed(1, extra, whole=("X", "same"))
            self.assertEqual(house.journal(0).text(), before)
            house, writes, before = self.crashed(2, extra, whole=("X", "same"))
            self.assertEqual(house.journal(0).text(), before + self.line(writes[2])[:extra])

    def test_a_content_that_the_store_has_damaged(self):
        house = self.house()
        house.store(0).put_content("X")
        house.store(0).damage_content(content_key("X"), "y")
        build = house.begin(0, ["a"])
        before = house.journal(0).text()
        house.crash_in(0, build.start("b"), 0, 4)
        self.assertEqual(house.journal(0).text(), before + content_line("X")[:4])

    def test_an_attempt_that_does_not_count(self):
        house = self.house()
        build = house.begin(0, ["a"])
        build.drop(build.start("b"))
        before = (house.journal(0).text(), dict(house.tree(0).entries))
        house.crash_in(0, 0, 5, 5)
        self.assertEqual((house.journal(0).text(), dict(house.tree(0).entries)), before)
        self.assertIs(house.is_up(0), False)

    def test_an_attempt_of_a_build_that_is_over(self):
        house = self.house()
        build = house.begin(0, ["a"])
        drive(build)
        before = (house.journal(0).text(), dict(house.tree(0).entries))
        house.crash_in(0, 0, 5, 5)
        self.assertEqual((house.journal(0).text(), dict(house.tree(0).entries)), before)
        self.assertEqual(build.outcome(), "done")

    def test_runs_that_were_not_done(self):
        for recipes in ("rule b :\nfail\nend", copies(("b", "c")) + joins("c :")):
            house = self.house(recipes=recipes)
            build = house.begin(0, ["b"])
            house.crash_in(0, build.start("b"), 9, 9)
            self.assertEqual((house.journal(0).text(), build.outcome()), ("", "cancelled"))

    def test_a_hall_that_was_shared_when_the_build_began(self):
        house = self.house()
        build = house.begin(0, ["a"])
        house.share(0, True)
        house.crash_in(0, build.start("b"), 99, 0)
        self.assertEqual(kept(house.hall()), ({}, []))
        house = self.house()
        house.share(0, True)
        build = house.begin(0, ["a"])
        house.share(0, False)
        house.crash_in(0, build.start("b"), 99, 0)
        self.assertEqual(house.hall().record_count(), 1)

    def test_refusals_in_their_order(self):
        house = self.house(2)
        self.check_refused(house, NoBuild, "crash_in", 0, 0, -1, -1, host=0)
        build = house.begin(0, ["a"])
        self.check_refused(house, NoSuchAttempt, "crash_in", 0, 0, -1, -1, attempt=0)
        build.start("b")
        for attempt in (-1, 1):
            self.check_refused(house, NoSuchAttempt, "crash_in", 0, attempt, -1, -1, attempt=attempt)
        self.check_refused(house, InvalidCount, "crash_in", 0, 0, -1, -2, amount=-1)
        self.check_refused(house, InvalidCount, "crash_in", 0, 0, 0, -2, amount=-2)
        self.check_refused(house, InvalidCount, "crash_in", 0, 0, 100, -1, amount=-1)
        self.assertEqual(build.outcome(), "going")

    def test_other_hosts_are_not_touched(self):
        house = self.house(2)
        builds = [house.begin(host, ["a"]) for host in (0, 1)]
        attempts = [build.start("b") for build in builds]
        house.crash_in(0, attempts[0], 1, 1)
        self.assertEqual((builds[1].outcome(), house.is_up(1)), ("going", True))
        self.assertTrue(builds[1].finish(attempts[1]))


class TestHarm(HouseCase):
    def test_a_store_that_is_harmed(self):
        house = self.house()
        drive(house.begin(0, ["a"]))
        house.store(0).lose_record(0)
        self.assertEqual(house.begin(0, ["a"]).ready(), ["b"])

    def test_a_hall_that_is_harmed(self):
        house = self.house(2)
        for host in (0, 1):
            house.share(host, True)
        drive(house.begin(0, ["a"]))
        house.hall().damage_content(content_key("X"), "y")
        build = house.begin(1, ["a"])
        self.assertEqual(build.ready(), ["b"])
        build.start("b")
        self.assertEqual(build.ledger(), [("run", "b", 0, (("hall", 0, "result", 0),))])

    def test_looking_changes_nothing(self):
        house = self.house(2)
        house.begin(0, ["a"]).start("b")
        house.crash(1)
        before = self.all_of(house)
        self.assertEqual(self.all_of(house), before)


if __name__ == "__main__":
    unittest.main()
