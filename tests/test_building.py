"""Points 110 to 114: the needed jobs of a build, how they are moved, and rings."""

import unittest

from kilnyard.building import Build
from kilnyard.errors import InvalidPath
from kilnyard.keys import content_key
from kilnyard.refusals import InvalidGoals
from kilnyard.targets import maker
from tests.helpers import Yard, copies, drive, heads, joins, kept, told


class TestGoals(unittest.TestCase):
    def setUp(self):
        self.yard = Yard(heads("*.o :") + joins("all : a.o b.o"), {"src": ""})

    def check_refused(self, goals, error, **attributes):
        before = self.yard.all_kept()
        with self.assertRaises(error) as caught:
            self.yard.build(*goals)
        self.assertEqual({name: getattr(caught.exception, name) for name in attributes}, attributes)
        self.assertEqual(self.yard.all_kept(), before)

    def test_one_goal(self):
        build = self.yard.build("a.o")
        self.assertEqual(build.states(), {"a.o": "ready"})
        self.assertEqual(build.outcome(), "going")

    def test_twenty_goals(self):
        goals = [f"f{at}.o" for at in range(20)]
        self.assertEqual(self.yard.build(*goals).ready(), sorted(goals))

    def test_no_goals(self):
        self.check_refused([], InvalidGoals, count_of_goals=0)

    def test_too_many_goals(self):
        self.check_refused([f"f{at}.o" for at in range(21)], InvalidGoals, count_of_goals=21)
        self.check_refused([f"f{at}.o" for at in range(30)], InvalidGoals, count_of_goals=30)

    def test_a_goal_twice(self):
        build = self.yard.build("a.o", "a.o", keep_going=True)
        self.assertEqual(build.states(), {"a.o": "ready"})
        build = self.yard.build("no", "src", "no", "src", keep_going=True)
        self.assertEqual(build.ledger(), [("missing", "no")])

    def test_a_goal_that_occurs_twice_is_built_once(self):
        goals = [f"f{at}.o" for at in range(10)]
        build = self.yard.build(*goals, *reversed(goals))
        self.assertEqual(build.ready(), goals)
        self.assertEqual(build.goals(), goals)
        drive(build)
        self.assertEqual((build.outcome(), build.attempt_count()), ("done", 10))
        self.assertEqual(self.yard.build(*["a.o"] * 20).ready(), ["a.o"])

    def test_the_limit_is_that_of_the_list_as_it_is_given(self):
        goals = [f"f{at}.o" for at in range(20)]
        self.check_refused(goals + ["f0.o"], InvalidGoals, count_of_goals=21)
        self.check_refused(goals + goals, InvalidGoals, count_of_goals=40)
        self.check_refused(["a.o"] * 21, InvalidGoals, count_of_goals=21)
        self.check_refused(["a.o", "src"] * 11 + ["a.o"], InvalidGoals, count_of_goals=23)

    def test_goals_that_are_no_paths(self):
        for goal in ("", "A", "a/", "*.o", "a b", "a/b/c/d/e", ".a"):
            self.check_refused(["a.o", goal, "B"], InvalidPath, path=goal)
        self.check_refused(["A", "B"], InvalidPath, path="A")
        self.check_refused(["no", "A"], InvalidPath, path="A")

    def test_their_number_is_checked_first(self):
        self.check_refused([f"F{at}" for at in range(21)], InvalidGoals, count_of_goals=21)
        self.check_refused(["A"] * 21, InvalidGoals, count_of_goals=21)
        self.check_refused(["a.o"] * 19 + ["A"], InvalidPath, path="A")

    def test_goals_and_settings_are_copied(self):
        self.yard.write(rules='rule a :\n put 1 setting("s")\nend')
        goals, settings = ["a"], {"s": "1"}
        build = Build(self.yard.tree, self.yard.book, settings, self.yard.store, None, goals)
        goals.append("b")
        settings["s"] = "2"
        settings["t"] = "2"
        self.assertEqual(goals, ["a", "b"])
        drive(build)
        self.assertEqual(build.contents(), {"a": "1"})
        self.assertEqual(build.view().settings, {"s": "1"})

    def test_keep_going_is_given_by_its_name(self):
        with self.assertRaises(TypeError):
            Build(self.yard.tree, self.yard.book, {}, self.yard.store, None, ["a.o"], True)

    def test_the_store_and_the_tree_are_not_copied(self):
        build = self.yard.build("a.o")
        self.assertIs(build.view().tree, self.yard.tree)
        build.finish(build.start("a.o"))
        self.assertEqual(self.yard.tree.read("a.o"), "a")
        self.assertEqual(self.yard.store.record_count(), 1)


class TestNeeded(unittest.TestCase):
    def test_jobs_that_make_inputs(self):
        yard = Yard(joins("all : b c", "b : d src", "c : d", "d :", "x :"), {"src": ""})
        build = yard.build("all")
        self.assertEqual(build.states(), {"all": "waiting", "b": "waiting", "c": "waiting", "d": "ready"})
        for name in build.states():
            self.assertEqual(build.job(name), yard.job(name))
        for name in ("x", "src", "no", ""):
            self.assertIsNone(build.job(name))

    def test_a_job_is_named_by_its_first_output(self):
        yard = Yard('rule b a :\n put 1 ""\n put 2 ""\nend\n' + joins("c : a"))
        build = yard.build("c")
        self.assertEqual(build.states(), {"b": "ready", "c": "waiting"})
        self.assertIsNone(build.job("a"))
        self.assertEqual(yard.build("a").states(), {"b": "ready"})

    def test_a_job_at_which_a_run_is_held(self):
        build = Yard(copies(("a", "b")) + joins("b : c", "c :")).build("a")
        attempt = build.start("a")
        self.assertEqual(build.states(), {"a": "running"})
        self.assertTrue(build.finish(attempt))
        self.assertEqual(build.states(), {"a": "waiting", "b": "waiting", "c": "ready"})
        self.assertEqual(build.ledger(), [("run", "a", 0, ()), ("wait", "a", "b")])

    def test_a_path_with_an_owner_that_does_not_make_it(self):
        # The second output of the pattern rule is owned by a plain rule, so that no job makes the first one.
        recipes = "rule *.o *.d :\nend\nrule x.d :\nend"
        build = Yard(recipes, {"x.o": ""}).build("x.o")
        self.assertEqual((build.outcome(), build.states()), ("done", {}))
        self.assertEqual(Yard(recipes).build("x.o").failures(), {"x.o": ("missing", "x.o")})

    def test_an_input_that_stands_twice(self):
        build = Yard(joins("a : b b", "b :")).build("a")
        drive(build)
        self.assertEqual(build.contents(), {"b": "<b>", "a": "<b><b><a>"})

    def test_a_goal_that_is_a_source(self):
        build = Yard(heads("a :"), {"src": ""}).build("src", "rules")
        self.assertEqual((build.outcome(), build.states(), build.ledger()), ("done", {}, []))
        self.assertEqual((build.contents(), build.failures(), build.rings()), ({}, {}, []))


class TestMoving(unittest.TestCase):
    def test_the_least_name_is_moved_again_and_again(self):
        yard = Yard(joins("a : b", "b :", "c :", "d : a"))
        yard.made("d", "c")
        build = yard.build("d", "c")
        self.assertEqual([entry[1] for entry in build.ledger()], ["b", "a", "c", "d"])
        self.assertEqual(build.outcome(), "done")

    def test_jobs_are_moved_when_something_has_happened(self):
        build = Yard(joins("a : b", "b :", "c : b")).build("a", "c")
        self.assertEqual(build.ready(), ["b"])
        build.finish(build.start("b"))
        self.assertEqual(build.ready(), ["a", "c"])
        self.assertEqual(build.states(), {"a": "ready", "b": "done", "c": "ready"})

    def test_a_job_waits_for_all_that_make_its_inputs(self):
        build = Yard(joins("a : b c", "b :", "c :")).build("a")
        build.finish(build.start("b"))
        self.assertEqual(build.states(), {"a": "waiting", "b": "done", "c": "ready"})
        build.finish(build.start("c"))
        self.assertEqual(build.states()["a"], "ready")

    def test_the_least_failed_job_blocks(self):
        yard = Yard(joins("a : d c b", "b :") + "rule c :\nfail\nend\nrule d :\nfail\nend\n")
        build = yard.build("a", keep_going=True)
        drive(build, max)
        self.assertEqual(build.failures(), {"d": ("tool", "failed"), "c": ("tool", "failed"), "a": ("blocked", "c")})
        self.assertEqual(build.ledger()[-1], ("fail", "a", "blocked", "c"))
        self.assertEqual(build.states(), {"a": "failed", "b": "done", "c": "failed", "d": "failed"})

    def test_blocked_is_told_by_the_name_of_the_job(self):
        build = Yard(joins("a : z") + "rule y z :\nfail\nend\n").build("a", keep_going=True)
        drive(build)
        self.assertEqual(build.failures()["a"], ("blocked", "y"))

    def test_blocked_comes_before_missing(self):
        build = Yard(joins("a : no b") + "rule b :\nfail\nend\n").build("a", keep_going=True)
        self.assertEqual(build.states(), {"a": "waiting", "b": "ready"})
        drive(build)
        self.assertEqual(build.failures()["a"], ("blocked", "b"))

    def test_missing_inputs(self):
        for files, links, path in (({}, {}, "s"), ({"s": ""}, {}, "t"), ({"t": ""}, {}, "s"),
                                   ({"t": ""}, {"s": "t"}, "s")):
            yard = Yard(joins("a : s t"), files, links)
            for keep_going in (True, False):
                build = yard.build("a", keep_going=keep_going)
                self.assertEqual((build.outcome(), build.failures()), ("failed", {"a": ("missing", path)}))
                self.assertEqual(build.ledger(), [("fail", "a", "missing", path)])
        self.assertEqual(Yard(joins("a : s t"), {"s": "", "t": ""}).build("a").outcome(), "going")

    def test_a_file_of_a_build_is_missing(self):
        yard = Yard(joins("a : s"))
        yard.tree.write("s", "", "build")
        self.assertEqual(yard.build("a").failures(), {"a": ("missing", "s")})

    def test_missing_comes_before_a_record_that_fits(self):
        yard = Yard("rule a : s\n put 1 stem\nend", {"s": ""})
        yard.made("a")
        self.assertEqual(yard.build("a").outcome(), "done")
        yard.tree.erase("s")
        self.assertEqual(yard.build("a").failures(), {"a": ("missing", "s")})

    def test_missing_comes_when_the_jobs_that_make_inputs_are_settled(self):
        build = Yard(joins("a : b no", "b :")).build("a", keep_going=True)
        self.assertEqual(build.outcome(), "going")
        drive(build)
        self.assertEqual(build.ledger()[-2:], [("ran", "b", 0), ("fail", "a", "missing", "no")])

    def test_a_record_is_taken(self):
        yard = Yard(joins("a : b", "b :"))
        yard.made("a")
        yard.tree.erase("a")
        yard.tree.write("b", "person", "person")
        build = yard.build("a")
        self.assertEqual((build.outcome(), build.attempt_count()), ("done", 0))
        self.assertEqual(build.ledger(), [("take", "b", "own", 0), ("take", "a", "own", 1)])
        self.assertEqual(build.contents(), {"a": "<b><a>", "b": "<b>"})
        self.assertEqual((yard.tree.read("a"), yard.tree.read("b")), ("<b><a>", "<b>"))
        self.assertEqual((yard.tree.writer("a"), yard.tree.writer("b")), ("build", "build"))

    def test_a_record_of_the_hall_is_taken(self):
        recipes = joins("a : s")
        other = Yard(recipes, {"s": "1"}, hall=True)
        other.made("a")
        yard = Yard(recipes, {"s": "1"}, hall=True)
        yard.hall = other.hall
        build = yard.build("a")
        self.assertEqual((build.outcome(), build.ledger()), ("done", [("take", "a", "hall", 0)]))
        self.assertEqual(yard.store.content(content_key("1<a>")), "1<a>")
        self.assertEqual(yard.store.record_count(), 0)

    def test_refused_candidates_make_a_job_ready(self):
        yard = Yard(joins("a : s"), {"s": "1"})
        yard.made("a")
        yard.write(s="2")
        self.assertEqual(yard.build("a").states(), {"a": "ready"})

    def test_held_by_a_record_while_moving(self):
        yard = Yard(copies(("a", "b")) + joins("b : c", "c :"))
        yard.made("a")
        yard.store.lose_record(1)
        build = yard.build("a")
        self.assertEqual(build.ledger(), [("wait", "a", "b"), ("take", "c", "own", 0)])
        self.assertEqual(build.states(), {"a": "waiting", "b": "ready", "c": "done"})
        build.finish(build.start("b"))
        self.assertEqual(build.ledger()[-1], ("take", "a", "own", 2))
        self.assertEqual(build.outcome(), "done")

    def test_held_again_and_again(self):
        yard = Yard('rule a :\n put 1 read("c") + read("b")\nend\n' + joins("b :", "c :"))
        yard.made("a")
        build = yard.build("a")
        self.assertEqual(build.ledger(), [("wait", "a", "c"), ("take", "c", "own", 0), ("wait", "a", "b"),
                                          ("take", "b", "own", 1), ("take", "a", "own", 2)])

    def test_a_held_job_waits_for_the_other_one_alone(self):
        # `a` has the input `b`, and is held at `c`: then a failure of `b` makes no difference any more.
        yard = Yard('rule a : b\n put 1 read("c")\nend\nrule c :\nfail\nend\n' + joins("b :"))
        build = yard.build("a", keep_going=True)
        drive(build)
        self.assertEqual(build.ledger(), [("run", "b", 0, ()), ("ran", "b", 0), ("run", "a", 1, ()),
                                          ("wait", "a", "c"), ("run", "c", 2, ()), ("fail", "c", "tool", "failed"),
                                          ("fail", "a", "blocked", "c")])

    def test_held_at_a_job_that_has_failed(self):
        yard = Yard(copies(("a", "b")) + "rule b :\nfail\nend\n")
        build = yard.build("a", "b", keep_going=True)
        build.finish(build.start("b"))
        build.finish(build.start("a"))
        self.assertEqual(build.ledger()[-2:], [("wait", "a", "b"), ("fail", "a", "blocked", "b")])
        self.assertEqual(build.outcome(), "failed")

    def test_held_at_a_job_that_is_done_by_then(self):
        build = Yard(copies(("a", "b")) + joins("b :")).build("a", "b")
        first, second = build.start("a"), build.start("b")
        build.finish(second)
        build.finish(first)
        self.assertEqual(build.ledger()[-1], ("wait", "a", "b"))
        self.assertEqual(build.states(), {"a": "ready", "b": "done"})
        drive(build)
        self.assertEqual(build.contents(), {"a": "<b>", "b": "<b>"})

    def test_what_lies_in_the_tree_at_an_output_makes_no_difference(self):
        for kind in ("person", "build", "link"):
            yard = Yard(joins("a : b", "b :"), {"s": "old"})
            if kind == "link":
                yard.tree.link("b", "s")
                yard.tree.link("a", "b")
            else:
                yard.tree.write("b", "old", kind)
                yard.tree.write("a", "old", kind)
            self.assertEqual(yard.made("a").contents(), {"a": "<b><a>", "b": "<b>"})
            self.assertEqual((yard.tree.read("a"), yard.tree.read("b")), ("<b><a>", "<b>"))
            self.assertEqual((yard.tree.writer("a"), yard.tree.writer("b")), ("build", "build"))
            self.assertEqual(yard.tree.read("s"), "old")


class TestResults(unittest.TestCase):
    """A record of the store whose result lies in the tree, the store or the hall, or nowhere."""

    def check(self, places, taken):
        recipes = "rule a :\n put 1 stem + \"t\"\nend"
        yard = Yard(recipes, hall=True)
        yard.store.add_record(yard.record("a", (), ("t",)))
        if "tree" in places:
            yard.tree.write("a", "t", "person")
        if "store" in places:
            yard.store.put_content("t")
        if "hall" in places:
            yard.hall.put_content("t")
        build = yard.build("a")
        self.assertEqual(build.states(), {"a": "done" if taken else "ready"}, places)
        if taken:
            self.assertEqual((yard.tree.read("a"), yard.tree.writer("a")), ("t", "build"))
        else:
            self.assertEqual(build.ledger(), [])
            build.start("a")
            self.assertEqual(build.ledger(), [("run", "a", 0, (("own", 0, "result", 0),))])

    def test_alone_and_together(self):
        for places in (("tree",), ("store",), ("hall",), ("tree", "store"), ("store", "hall")):
            self.check(places, True)
        self.check((), False)


class TestRings(unittest.TestCase):
    def check(self, recipes, goals, rings, failures, files=()):
        """Both kinds of builds of these goals end with these rings; one that keeps going has these failures."""
        yard = Yard(recipes, files)
        build = yard.build(*goals.split(), keep_going=True)
        drive(build)
        expected = [ring.split() for ring in rings]
        ringed = sorted([name for ring in expected for name in ring])
        self.assertEqual((build.outcome(), build.rings()), ("failed", expected))
        self.assertEqual(build.failures(), {**{name: ("ring", name) for name in ringed}, **failures})
        ring_entries = [entry for entry in build.ledger() if entry[0] == "fail" and entry[2] == "ring"]
        self.assertEqual(ring_entries, [("fail", name, "ring", name) for name in ringed])
        nothing = yard.nothing(*goals.split())
        self.assertEqual((nothing.rings, nothing.failures), (build.rings(), build.failures()))
        stopping = Yard(recipes, files).build(*goals.split())
        drive(stopping)
        self.assertEqual((stopping.outcome(), stopping.rings()), ("failed", expected))
        self.assertEqual(stopping.failures(), {name: ("ring", name) for name in ringed})
        return build, stopping

    def test_one_job_with_its_own_input(self):
        build, stopping = self.check(joins("a : a"), "a", ["a"], {})
        for each in (build, stopping):
            self.assertEqual(each.ledger(), [("fail", "a", "ring", "a")])
            self.assertEqual(each.states(), {"a": "failed"})

    def test_one_job_that_reads_its_own_output(self):
        build, _ = self.check(copies(("a", "a")), "a", ["a"], {})
        self.assertEqual(build.ledger(), [("run", "a", 0, ()), ("wait", "a", "a"), ("fail", "a", "ring", "a")])

    def test_a_job_that_reads_its_second_output(self):
        build, _ = self.check('rule a b :\n put 1 read("b")\n put 2 ""\nend', "a", ["a"], {})
        self.assertEqual(build.ledger()[1:], [("wait", "a", "a"), ("fail", "a", "ring", "a")])

    def test_two_jobs(self):
        self.check(joins("a : b", "b : a"), "a", ["a b"], {})
        self.check(copies(("a", "b"), ("b", "a")), "a", ["a b"], {})
        self.check(joins("a : b") + copies(("b", "a")), "b", ["a b"], {})

    def test_two_rings_beside_one_another(self):
        build, _ = self.check(joins("a : d", "d : a", "b : c", "c : b"), "a b", ["a d", "b c"], {})
        self.assertEqual([entry[1] for entry in build.ledger()], ["a", "b", "c", "d"])

    def test_two_rings_that_share_a_job(self):
        self.check(joins("a : b c", "b : a", "c : a"), "a", ["a b c"], {})

    def test_a_ring_that_waits_for_a_ring(self):
        self.check(joins("a : b c", "b : a", "c : d", "d : c"), "a", ["a b", "c d"], {})

    def test_jobs_that_wait_for_a_ring(self):
        _, stopping = self.check(joins("a : b", "b : c", "c : c", "x : a"), "x", ["c"],
                                 {"b": ("blocked", "c"), "a": ("blocked", "b"), "x": ("blocked", "a")})
        self.assertEqual(stopping.states(), {"a": "waiting", "b": "waiting", "c": "failed", "x": "waiting"})

    def test_a_ring_is_found_when_nothing_else_is_to_be_done(self):
        yard = Yard(joins("a : a", "b :", "c : b"))
        build = yard.build("a", "c")
        self.assertEqual(build.states(), {"a": "waiting", "b": "ready", "c": "waiting"})
        attempt = build.start("b")
        self.assertEqual(build.states()["a"], "waiting")
        build.finish(attempt)
        self.assertEqual(build.states(), {"a": "waiting", "b": "done", "c": "ready"})
        build.finish(build.start("c"))
        self.assertEqual((build.outcome(), build.rings()), ("failed", [["a"]]))
        self.assertEqual(build.contents(), {"b": "<b>", "c": "<b><c>"})

    def test_a_ring_behind_a_drop(self):
        build = Yard(joins("a : a", "b :")).build("a", "b")
        build.drop(build.start("b"))
        self.assertEqual(build.states(), {"a": "waiting", "b": "ready"})
        self.assertEqual(build.rings(), [])

    def test_settled_jobs_are_in_no_ring(self):
        self.check(joins("a : b c", "b : d", "d :") + copies(("c", "a")), "a", ["a c"], {})

    def test_a_ring_through_a_job_that_waited_before(self):
        # `a` waits for `b` and then for `c` alone: what it waited for before is no edge any more.
        recipes = 'rule a :\n put 1 read("b") + read("c")\nend\n' + joins("b :", "c : a")
        self.check(recipes, "a", ["a c"], {})

    def test_a_build_with_failures_and_a_ring(self):
        yard = Yard(joins("a : a") + "rule b :\nfail\nend")
        build = yard.build("a", "b", keep_going=True)
        drive(build)
        self.assertEqual(build.failures(), {"a": ("ring", "a"), "b": ("tool", "failed")})
        build = yard.build("a", "b")
        drive(build)
        self.assertEqual((build.failures(), build.rings()), ({"b": ("tool", "failed")}, []))


class TestNewValues(unittest.TestCase):
    """What a build returns may be changed by the caller without effect."""

    def test_all_that_is_returned(self):
        yard = Yard(joins("a : a", "c :", "b : c"), hall=True)
        build = yard.build("a", "b", "no", keep_going=True)
        build.finish(build.start("c"))
        build.start("b")
        before = (told(build), yard.all_kept())
        build.states().clear()
        build.states()["b"] = "done"
        build.ready().append("z")
        build.contents().clear()
        build.failures()["z"] = ("tool", "")
        build.rings().append(["z"])
        build.ledger().clear()
        build.goals().clear()
        build.writes(1).clear()
        self.assertEqual((told(build), yard.all_kept()), before)
        build.finish(1)
        before = told(build)
        self.assertEqual(build.rings(), [["a"]])
        build.rings()[0].append("z")
        build.rings().clear()
        self.assertEqual(told(build), before)

    def test_the_view_is_the_same_all_the_time(self):
        build = Yard(joins("a : b", "b :")).build("a")
        view = build.view()
        self.assertFalse(view.is_done(build.job("b")))
        drive(build)
        self.assertIs(build.view(), view)
        for name in ("a", "b"):
            self.assertTrue(view.is_done(build.job(name)))

    def test_a_book_is_not_changed(self):
        yard = Yard(joins("a : b", "b :"))
        book = yard.book
        before = (dict(book.settings), list(book.rules), list(book.files))
        build = Build(yard.tree, book, {}, yard.store, None, ["a"])
        drive(build)
        self.assertEqual((book.settings, book.rules, book.files), before)
        self.assertEqual(build.job("a"), maker(book, "a"))

    def test_two_builds_of_one_store(self):
        recipes = joins("a : b", "b :")
        one, two = Yard(recipes), Yard(recipes)
        two.store = one.store
        first, second = one.build("a"), two.build("a")
        first.finish(first.start("b"))
        self.assertEqual(second.ready(), ["b"])
        self.assertIsNone(second.start("b"))
        self.assertEqual(second.ledger(), [("take", "b", "own", 0)])
        self.assertEqual(kept(one.store), kept(two.store))


if __name__ == "__main__":
    unittest.main()
