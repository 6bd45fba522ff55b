"""Points 70 to 76: building from nothing."""

import copy
import itertools
import unittest

from kilnyard.plain import Outcome, build_from_nothing
from kilnyard.recipes import parse_book
from kilnyard.trees import Tree

COPY = ' put 1 read("{}")\nend\n'


class PlainCase(unittest.TestCase):
    def setUp(self):
        self.tree = Tree()
        self.settings = {}

    def write(self, **files):
        for path, text in files.items():
            self.tree.write(path, text, "person")

    def build(self, recipes, *goals):
        """The outcome of the recipes for these goals, which does not depend on the goals' order."""
        self.write(rules=recipes)
        book = parse_book(self.tree)
        before = copy.deepcopy((self.tree.entries, book.settings, book.rules, book.files, self.settings))
        asked = list(goals)
        result = build_from_nothing(self.tree, book, self.settings, asked)
        self.assertIsInstance(result, Outcome)
        self.assertEqual((self.tree.entries, book.settings, book.rules, book.files, self.settings), before)
        self.assertEqual(asked, list(goals))
        other = build_from_nothing(self.tree, book, self.settings, asked[::-1] + asked[:1])
        self.assertEqual(vars(result), vars(other))
        return result

    def check_done(self, recipes, goals, contents, jobs=None):
        """The build is done and gives these contents, by jobs with these names."""
        result = self.build(recipes, *goals.split())
        self.assertEqual((result.outcome, result.failures, result.rings), ("done", {}, []))
        self.assertEqual(result.contents, contents)
        self.assertEqual(result.jobs, sorted(contents) if jobs is None else jobs.split())

    def check_failed(self, recipes, goals, failures, contents=(), rings=()):
        """The build fails with these failures; all needed jobs fail or have contents."""
        result = self.build(recipes, *goals.split())
        self.assertEqual((result.outcome, result.failures, result.contents, result.rings),
                         ("failed", failures, dict(contents), list(rings)))
        jobs = [name for name in failures if failures[name] != ("missing", name)]
        self.assertEqual(result.jobs, sorted(jobs + list(dict(contents))))


def copies(*pairs):
    """The recipes of rules without inputs that copy a file: pairs of an output and what it reads."""
    return "".join([f'rule {path} :\n put 1 read("{other}")\nend\n' for path, other in pairs])


def chain(*heads):
    """The recipes of rules with these outputs and inputs; each gives its stem."""
    return "".join([f"rule {head}\n put 1 stem\nend\n" for head in heads])


class TestDone(PlainCase):
    def test_no_goals(self):
        self.check_done(chain("a :"), "", {})

    def test_a_goal_that_is_a_file_of_a_person(self):
        self.write(b="x")
        self.check_done(chain("a :"), "b", {})
        self.check_done(chain("a :"), "rules", {})

    def test_a_goal_that_a_job_makes(self):
        self.check_done('rule a :\n put 1 "x"\nend', "a", {"a": "x"})

    def test_a_goal_twice(self):
        self.check_done('rule a :\n put 1 "x"\nend', "a a", {"a": "x"})

    def test_only_needed_jobs_are_there(self):
        self.check_done(chain("a :", "b :", "*.o :"), "b x.o", {"b": "", "x.o": "x"})

    def test_a_job_with_several_outputs(self):
        recipes = 'rule b a :\n put 1 "1"\n put 2 "2"\nend'
        for goals in ("a", "b", "a b"):
            self.check_done(recipes, goals, {"b": "1", "a": "2"}, "b")

    def test_jobs_that_make_inputs_are_needed(self):
        recipes = 'rule a : b c\n put 1 read("b") + read("c")\nend\nrule c : d\n put 1 read("d") + "c"\nend\n'
        self.write(b="b", d="d")
        self.check_done(recipes, "a", {"a": "bdc", "c": "dc"})

    def test_an_input_that_stands_twice(self):
        self.check_done(chain("a : b b", "b :"), "a", {"a": "", "b": ""})

    def test_jobs_at_which_a_run_is_held_are_needed(self):
        self.write(d="d")
        self.check_done(copies(("a", "b"), ("b", "c"), ("c", "d")), "a", {"a": "d", "b": "d", "c": "d"})

    def test_a_run_that_is_held_again_and_again(self):
        recipes = 'rule a :\n put 1 read("x.o") + read("y.o") + read("x.o")\nend\nrule *.o :\n put 1 stem\nend'
        self.check_done(recipes, "a", {"a": "xyx", "x.o": "x", "y.o": "y"})

    def test_what_is_read_decides_what_is_needed(self):
        recipes = 'rule a : b\n put 1 read(read("b"))\nend\nrule b :\n put 1 "x.o"\nend\nrule *.o :\n put 1 stem\nend'
        self.check_done(recipes, "a", {"a": "x", "b": "x.o", "x.o": "x"})

    def test_inputs_that_are_not_read(self):
        self.write(c="")
        self.check_done(chain("a : b c", "b :"), "a", {"a": "", "b": ""})

    def test_a_job_makes_what_a_person_wrote_too(self):
        # The file of the person is not looked at.
        self.write(b="person", c="c")
        self.check_done(copies(("a", "b"), ("b", "c")), "a", {"a": "c", "b": "c"})


class TestAnswers(PlainCase):
    def check_one(self, body, text):
        """A rule with this body gives this text, and needs no other job."""
        with self.subTest(body=body):
            self.check_done(f"rule a :\n{body}\nend\n{self.others}", "a", {"a": text})

    others = ""

    def test_a_file_that_no_job_makes(self):
        self.write(b="text", e="")
        self.check_one('put 1 read("b")', "text")
        self.check_one('put 1 read("e")', "")

    def test_a_file_of_a_build_is_not_there(self):
        self.tree.write("b", "text", "build")
        self.check_one('put 1 has("b")', "")
        self.check_failed('rule a :\nput 1 read("b")\nend', "a", {"a": ("tool", "no file")})

    def test_has(self):
        self.write(b="")
        self.others = "rule c c2 :\nend\nrule *.o :\nfail\nend\n"
        self.tree.link("l", "b")
        self.tree.link("dead", "nowhere")
        for path, there in (("b", "yes"), ("c", "yes"), ("c2", "yes"), ("x.o", "yes"), ("a", "yes"), ("l", "yes"),
                            ("rules", "yes"), ("d", ""), ("dead", ""), ("d/x.o", "")):
            self.check_one(f'put 1 has("{path}")', there)

    def test_listings(self):
        self.write(**{"d/c": "", "d/b": "", "d/x.o": ""})
        self.tree.write("d/built", "", "build")
        self.tree.link("d/l", "nowhere")
        self.others = "rule d/a :\nfail\nend\nrule d/*.o :\nend\n"
        self.check_one('put 1 list("d", "*")', "d/a\nd/b\nd/c\nd/l")
        self.check_one('put 1 list("e", "*")', "")

    def test_a_listing_that_is_too_long(self):
        for at in range(34):
            self.write(**{"d/" + str(at) + "x" * 8: ""})
        self.check_failed('rule a :\nput 1 list("d", "*")\nend', "a", {"a": ("tool", "too long")})

    def test_settings(self):
        self.others = 'set one "1"\nset two "2"\nset none ""\n'
        self.settings = {"two": "own", "three": "3", "one_": "x"}
        for name, text in (("one", "1"), ("two", "own"), ("three", "3"), ("none", ""), ("four", ""), ("A", "")):
            self.check_one(f'put 1 setting("{name}")', text)

    def test_an_empty_text_of_the_host_comes_before_the_default(self):
        self.others = 'set one "1"\n'
        self.settings = {"one": ""}
        self.check_one('put 1 setting("one") + "."', ".")

    def test_links(self):
        self.write(b="text")
        self.tree.link("l", "m")
        self.tree.link("m", "b")
        self.check_one('put 1 read("l") + has("m")', "textyes")

    def test_a_link_at_a_path_that_a_job_makes_is_not_there(self):
        self.write(b="text")
        self.tree.link("c", "b")
        self.check_done('rule a :\nput 1 read("c")\nend\nrule c :\nput 1 "made"\nend', "a", {"a": "made", "c": "made"})

    def test_a_link_to_a_path_that_a_job_makes(self):
        self.tree.link("l", "x.o")
        self.check_done('rule a :\nput 1 read("l")\nend\n' + chain("*.o :"), "a", {"a": "x", "x.o": "x"})

    def test_a_dead_link(self):
        self.tree.link("l", "nowhere")
        self.check_failed('rule a :\nput 1 read("l")\nend', "a", {"a": ("tool", "no file")})

    def test_has_does_not_need_the_job(self):
        self.others = "rule b :\nfail\nend\n"
        self.check_one('put 1 has("b")', "yes")

    def test_a_path_that_is_owned_but_not_made(self):
        self.write(xx="person")
        self.check_done('rule a :\nput 1 read("xx")\nend\nrule x* *x :\nend', "a", {"a": "person"})


class TestFailures(PlainCase):
    def test_failures_of_tools(self):
        for body, failure in (("fail", "failed"), ("", "missing output"), ('put 1 read("A")', "invalid path"),
                              ('put 1 read("b")', "no file"), ('put 1 ""\nput 1 ""', "put twice")):
            self.check_failed(f"rule a :\n{body}\nend", "a", {"a": ("tool", failure)})

    def test_a_failed_job_gives_nothing(self):
        self.check_failed('rule a b :\nput 1 ""\nend', "b", {"a": ("tool", "missing output")})

    def test_the_contents_of_other_jobs_stay(self):
        self.check_failed("rule a :\nfail\nend\n" + chain("*.o :"), "a x.o", {"a": ("tool", "failed")}, {"x.o": "x"})

    def test_a_missing_input(self):
        self.check_failed(chain("a : b"), "a", {"a": ("missing", "b")})

    def test_the_first_missing_input(self):
        self.write(d="")
        self.check_failed(chain("a : d c b", "d2 :"), "a", {"a": ("missing", "c")})

    def test_links_and_files_of_builds_are_no_inputs(self):
        self.write(d="")
        self.tree.link("l", "d")
        self.tree.write("b", "", "build")
        self.check_failed(chain("a : d l"), "a", {"a": ("missing", "l")})
        self.check_failed(chain("a : b d"), "a", {"a": ("missing", "b")})

    def test_a_missing_input_is_found_after_the_other_inputs_are_made(self):
        self.check_failed(chain("a : b x.o", "*.o :"), "a", {"a": ("missing", "b")}, {"x.o": "x"})

    def test_a_tool_does_not_run_if_an_input_is_missing(self):
        self.check_failed(copies(("c", "d")) + 'rule a : b\nput 1 read("c")\nend', "a", {"a": ("missing", "b")})

    def test_an_input_that_failed(self):
        failures = {"a": ("blocked", "b"), "b": ("tool", "failed")}
        self.check_failed(chain("a : b") + "rule b :\nfail\nend", "a", failures)

    def test_the_least_failed_input(self):
        failures = {"a": ("blocked", "b"), "b": ("missing", "x"), "c": ("missing", "y")}
        self.check_failed(chain("a : c d b", "b : x", "c : y", "d :"), "a", failures, {"d": ""})

    def test_the_name_of_a_failed_job_is_its_first_output(self):
        failures = {"a": ("blocked", "z"), "z": ("tool", "failed")}
        self.check_failed(chain("a : b") + "rule z b :\nfail\nend", "a", failures)
        failures = {"a": ("blocked", "y"), "z": ("tool", "failed"), "y": ("tool", "failed")}
        self.check_failed(chain("a : b y") + "rule z b :\nfail\nend\nrule y :\nfail\nend", "a", failures)

    def test_blocked_comes_before_missing(self):
        failures = {"a": ("blocked", "b"), "b": ("tool", "failed")}
        self.check_failed(chain("a : x b") + "rule b :\nfail\nend", "a", failures)

    def test_a_job_that_is_held_at_a_failed_one(self):
        recipes = copies(("a", "b"), ("c", "b")) + "rule b :\nfail\nend"
        failures = {"a": ("blocked", "b"), "b": ("tool", "failed"), "c": ("blocked", "b")}
        self.check_failed(recipes, "a c", failures)

    def test_a_job_whose_failed_job_was_there_before(self):
        # The goal `b` has failed before the run of `z` comes to it.
        recipes = copies(("z", "c"), ("c", "b")) + "rule b :\nfail\nend"
        failures = {"z": ("blocked", "c"), "c": ("blocked", "b"), "b": ("tool", "failed")}
        self.check_failed(recipes, "z b", failures)

    def test_a_run_that_fails_before_it_comes_to_a_failed_job(self):
        recipes = 'rule a :\nlet x read("A")\nput 1 read("b")\nend\nrule b :\nfail\nend\n'
        self.check_failed(recipes, "a b", {"a": ("tool", "invalid path"), "b": ("tool", "failed")})

    def test_a_missing_goal(self):
        self.check_failed(chain("a :"), "b", {"b": ("missing", "b")})
        self.check_failed(chain("a :"), "c a b", {"b": ("missing", "b"), "c": ("missing", "c")}, {"a": ""})

    def test_goals_at_which_there_is_no_file_of_a_person(self):
        self.write(d="")
        self.tree.link("l", "d")
        self.tree.write("b", "", "build")
        self.check_failed(chain("a :"), "b l d", {"b": ("missing", "b"), "l": ("missing", "l")})

    def test_a_goal_that_is_owned_but_not_made(self):
        self.check_failed("rule x* *x :\nend", "xx", {"xx": ("missing", "xx")})


class TestRings(PlainCase):
    def test_a_job_with_its_own_output_as_an_input(self):
        self.check_failed(chain("a : a"), "a", {"a": ("ring", "a")}, rings=[["a"]])
        self.check_failed(chain("b a : a"), "a", {"b": ("ring", "b")}, rings=[["b"]])

    def test_a_job_that_reads_its_own_output(self):
        self.check_failed(copies(("a", "a")), "a", {"a": ("ring", "a")}, rings=[["a"]])
        self.check_failed('rule b a :\nput 1 read("a")\nend', "a", {"b": ("ring", "b")}, rings=[["b"]])

    def test_a_ring_of_inputs(self):
        failures = {"a": ("ring", "a"), "b": ("ring", "b"), "c": ("ring", "c")}
        self.check_failed(chain("a : b", "b : c", "c : a"), "b", failures, rings=[["a", "b", "c"]])

    def test_a_ring_of_held_runs(self):
        failures = {"a": ("ring", "a"), "b": ("ring", "b")}
        self.check_failed(copies(("b", "a"), ("a", "b")), "b", failures, rings=[["a", "b"]])

    def test_a_ring_of_an_input_and_a_held_run(self):
        failures = {"a": ("ring", "a"), "b": ("ring", "b")}
        self.check_failed(chain("a : b") + copies(("b", "a")), "a", failures, rings=[["a", "b"]])

    def test_a_ring_that_is_closed_by_a_link(self):
        self.tree.link("l", "a")
        failures = {"a": ("ring", "a"), "b": ("ring", "b")}
        self.check_failed(chain("a : b") + copies(("b", "l")), "a", failures, rings=[["a", "b"]])

    def test_two_rings_beside_one_another(self):
        failures = {name: ("ring", name) for name in "abcd"}
        self.check_failed(chain("a : d", "d : a", "b : c", "c : b"), "b a", failures, rings=[["a", "d"], ["b", "c"]])

    def test_two_rings_one_of_which_waits_for_the_other(self):
        failures = {name: ("ring", name) for name in "abcd"}
        self.check_failed(chain("c : d", "d : c a", "b : a", "a : b"), "c", failures, rings=[["a", "b"], ["c", "d"]])

    def test_two_rings_that_share_a_job_are_one(self):
        failures = {name: ("ring", name) for name in "abc"}
        self.check_failed(chain("a : b", "b : a c", "c : b"), "a", failures, rings=[["a", "b", "c"]])

    def test_a_job_that_waits_for_a_ring(self):
        failures = {"a": ("ring", "a"), "b": ("ring", "b"), "c": ("blocked", "a"), "d": ("blocked", "a"),
                    "e": ("blocked", "c")}
        recipes = chain("a : b", "b : a", "c : b a", "e : c") + copies(("d", "a"))
        self.check_failed(recipes, "e d", failures, rings=[["a", "b"]])

    def test_a_job_between_two_rings(self):
        failures = {"a": ("ring", "a"), "b": ("blocked", "c"), "c": ("ring", "c")}
        self.check_failed(chain("a : a b", "b : c", "c : c"), "a", failures, rings=[["a"], ["c"]])

    def test_a_job_in_a_ring_with_a_failed_input(self):
        # It waits for all jobs that make its inputs, so that it is not blocked before the ring is found.
        failures = {"a": ("ring", "a"), "b": ("ring", "b"), "f": ("tool", "failed")}
        self.check_failed(chain("a : f b", "b : a") + "rule f :\nfail\nend", "a", failures, rings=[["a", "b"]])

    def test_a_job_in_a_ring_with_a_missing_input(self):
        failures = {"a": ("ring", "a"), "b": ("ring", "b")}
        self.check_failed(chain("a : x b", "b : a"), "a", failures, rings=[["a", "b"]])

    def test_a_held_job_waits_for_that_one_alone(self):
        # The run of `b` is held at `a` before it comes to `f`.
        recipes = chain("a : b") + 'rule b :\nput 1 read("a") + read("f")\nend\nrule f :\nfail\nend'
        failures = {"a": ("ring", "a"), "b": ("ring", "b")}
        self.check_failed(recipes, "a", failures, rings=[["a", "b"]])

    def test_jobs_beside_a_ring_are_done(self):
        self.check_failed(chain("a : a", "b : c", "c :"), "a b", {"a": ("ring", "a")}, {"b": "", "c": ""}, [["a"]])

    def test_a_ring_behind_a_run_that_went_on(self):
        recipes = 'rule a :\nput 1 read("b") + read("c")\nend\n' + chain("b :") + copies(("c", "a"))
        self.check_failed(recipes, "a", {"a": ("ring", "a"), "c": ("ring", "c")}, {"b": ""}, [["a", "c"]])

    def test_has_and_list_close_no_ring(self):
        recipes = 'rule a : b\nput 1 read("b")\nend\nrule b :\nput 1 has("a") + list("", "*") + has("b")\nend'
        self.check_done(recipes, "a", {"a": "yesa\nb\nrulesyes", "b": "yesa\nb\nrulesyes"})


class TestMany(PlainCase):
    GOALS = ["n" + str(at) for at in range(61)]

    def check_too_many(self, recipes, goals):
        result = self.build(recipes, *goals)
        self.assertEqual((result.outcome, result.contents, result.failures, result.rings, result.jobs),
                         ("too many", {}, {}, [], []))

    def check_many(self, recipes, goals):
        result = self.build(recipes, *goals)
        self.assertEqual((result.outcome, len(result.jobs)), ("done", 60))
        return result

    def test_60_jobs(self):
        result = self.check_many(chain("n* :"), self.GOALS[:60])
        self.assertEqual(result.jobs, sorted(self.GOALS[:60]))
        self.assertEqual(result.contents, {goal: goal[1:] for goal in self.GOALS[:60]})

    def test_61_jobs(self):
        self.check_too_many(chain("n* :"), self.GOALS)

    def test_goals_that_stand_twice_and_files_are_no_jobs(self):
        self.write(b="")
        self.check_many(chain("n* :"), self.GOALS[:60] + self.GOALS[:5] + ["b"])

    def test_jobs_that_make_inputs(self):
        # A job needs the one whose name is longer by an `x`; the rule does not apply to names of 12 characters.
        goals = ["n1", "n2", "n3", "n4", "n5", "n6"]
        for goal in goals + ["n77777777"]:
            self.write(**{goal.ljust(12, "x"): ""})
        self.check_many(chain("n* : n*x"), goals)
        self.check_too_many(chain("n* : n*x"), goals + ["n7777777777"])
        self.check_many(chain("n* : n*x"), goals[:5] + ["n77777777", "n6xxx"])

    def test_a_job_at_which_a_run_is_held(self):
        recipes = chain("n* :") + copies(("a", "n60"))
        self.check_many(recipes, ["a"] + self.GOALS[:58])
        self.check_many(recipes, ["a"] + self.GOALS[:58])
        self.check_too_many(recipes, ["a"] + self.GOALS[:59])
        self.check_many(recipes, ["a"] + self.GOALS[2:61])

    def test_too_many_leaves_no_failures(self):
        recipes = chain("n* :", "b : x", "c : c") + copies(("a", "n60"))
        self.check_too_many(recipes, ["a", "b", "c", "d"] + self.GOALS[:57])
        result = self.build(recipes, "a", "b", "c", "d", *self.GOALS[:56])
        self.assertEqual((result.outcome, len(result.jobs)), ("failed", 60))
        self.assertEqual(result.failures, {"b": ("missing", "x"), "c": ("ring", "c"), "d": ("missing", "d")})
        self.assertEqual(result.rings, [["c"]])

    def test_a_job_behind_a_failed_one_is_not_needed(self):
        recipes = chain("n* :", "b : x") + 'rule a : b\nput 1 read("n60")\nend'
        result = self.build(recipes, "a", *self.GOALS[:58])
        self.assertEqual((result.outcome, len(result.jobs)), ("failed", 60))
        self.assertEqual(result.failures, {"a": ("blocked", "b"), "b": ("missing", "x")})


class TestOutcome(PlainCase):
    def test_results_are_new_each_time(self):
        self.write(rules=chain("a : a", "b :"))
        book = parse_book(self.tree)
        first = build_from_nothing(self.tree, book, {}, ["a", "b"])
        first.contents["x"] = ""
        first.failures["x"] = ("tool", "failed")
        first.rings[0].append("x")
        first.jobs.append("x")
        second = build_from_nothing(self.tree, book, {}, ["a", "b"])
        self.assertEqual((second.contents, second.failures, second.rings, second.jobs),
                         ({"b": ""}, {"a": ("ring", "a")}, [["a"]], ["a", "b"]))

    def test_nothing_is_written_and_nothing_that_was_built_is_read(self):
        self.write(c="new")
        self.tree.write("b", "old", "build")
        self.tree.write("a", "old", "build")
        self.check_done(copies(("a", "b"), ("b", "c")), "a", {"a": "new", "b": "new"})
        self.assertEqual(self.tree.read("a"), "old")

    def test_the_order_of_goals_makes_no_difference(self):
        recipes = chain("a : b", "b : a", "c : a d", "e : c x", "x* :") + copies(("d", "e"), ("f", "c"))
        self.write(rules=recipes)
        book = parse_book(self.tree)
        goals = ["a", "c", "f", "x1", "g"]
        expected = vars(build_from_nothing(self.tree, book, {}, goals))
        self.assertEqual(expected["rings"], [["a", "b"], ["c", "d", "e"]])
        for order in itertools.permutations(goals):
            self.assertEqual(vars(build_from_nothing(self.tree, book, {}, list(order))), expected)


if __name__ == "__main__":
    unittest.main()
