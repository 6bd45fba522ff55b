"""Points 50 to 52 and 55 to 61: runs of tools, their looks, steps and ends."""

import copy
import unittest

from kilnyard.errors import Held
from kilnyard.keys import content_key
from kilnyard.recipes import Book, Rule, parse_book
from kilnyard.running import Run, run_tool
from kilnyard.targets import Job, make_job
from kilnyard.trees import Tree

OTHER = Job(7, "", ("other",), ())
LONG = "x" * 400
TOO_LONG = "x" * 401


class Scripted:
    """A view with an answer for each question: a key, None, True, False, or the job at which it is held."""

    def __init__(self, answers):
        self.answers = dict(answers)
        self.asked = []

    def see(self, question):
        self.asked.append(question)
        answer = self.answers[question]
        if isinstance(answer, Job):
            raise Held(answer)
        return answer


def key(text):
    return None if text is None else content_key(text)


def link(path, target):
    return (("link", path), key(target))


def file(path, text):
    """The answers about a file, or about nothing if the text is None."""
    return [link(path, None), (("file", path), key(text))]


def there(path, seen):
    return [link(path, None), (("has", path), seen)]


def listing(folder, pattern, text):
    return (("listing", folder, pattern), key(text))


def setting(name, text):
    return (("setting", name), key(text))


def needs(answers):
    return tuple([question + (answer,) for question, answer in answers])


def book_of(text):
    tree = Tree()
    tree.write("rules", text, "person")
    return parse_book(tree)


class RunCase(unittest.TestCase):
    def run_body(self, body, answers=(), head="rule a :", stem=""):
        """The run of a rule with this body, and the view that it asked."""
        book = book_of(head + "\n" + body + "\nend")
        return self.run_book(book, answers, stem)

    def run_rule(self, body, answers=()):
        """The run of a plain rule with this body, written as a tuple: its strings may be long."""
        book = Book()
        book.rules.append(Rule(("a",), (), False, body))
        return self.run_book(book, answers)

    def run_book(self, book, answers, stem=""):
        before = copy.deepcopy(book)
        view = Scripted(answers)
        job = make_job(book, 0, stem)
        run = run_tool(book, job, view)
        self.assertIsInstance(run, Run)
        self.assertEqual((book.settings, book.rules, book.files), (before.settings, before.rules, before.files))
        self.assertEqual((job.outputs, job.inputs, job.stem), (make_job(book, 0, stem).outputs,
                                                               make_job(book, 0, stem).inputs, stem))
        return run, view

    def check(self, run, outcome, outputs=(), failure=None, held=None):
        self.assertEqual((run.outcome, run.outputs, run.failure), (outcome, outputs, failure))
        self.assertIs(run.held, held)
        self.assertIsInstance(run.needs, tuple)

    def check_done(self, body, *outputs, answers=(), head="rule a :", stem=""):
        with self.subTest(body=body):
            run, view = self.run_body(body, answers, head, stem)
            self.check(run, "done", outputs)
            self.assertEqual(run.needs, needs(answers))
            self.assertEqual(view.asked, [question for question, _ in answers])
            return run

    def check_failed(self, body, failure, answers=(), head="rule a :", stem=""):
        with self.subTest(body=body):
            run, view = self.run_body(body, answers, head, stem)
            self.check(run, "failed", (), failure)
            self.assertEqual(run.needs, needs(answers))
            self.assertEqual(view.asked, [question for question, _ in answers])
            return run

    def check_held(self, body, answers=(), head="rule a :"):
        """The run is held at the last of the questions."""
        with self.subTest(body=body):
            run, view = self.run_body(body, answers, head)
            self.check(run, "held", (), None, OTHER)
            self.assertEqual(run.needs, needs(answers[:-1]))
            self.assertEqual(view.asked, [question for question, _ in answers])
            return run


class TestStatements(RunCase):
    def test_put_gives_an_output_its_text(self):
        self.check_done('put 1 "text\\n"', "text\n")
        self.check_done('put 1 ""', "")

    def test_outputs_come_in_the_order_of_the_job(self):
        self.check_done('put 3 "c"\nput 1 "a"\nput 2 "b"', "a", "b", "c", head="rule z y x :")

    def test_the_stem_is_the_first_variable(self):
        self.check_done("put 1 stem", "main", head="rule *.o :", stem="main")
        self.check_done("put 1 stem", "")

    def test_let_assigns(self):
        self.check_done('let x "1"\nlet y x + x\nlet x "2"\nput 1 x + y', "211")

    def test_let_may_read_what_it_assigns(self):
        self.check_done('let x "1"\nlet x x + x\nput 1 x', "11")

    def test_if_takes_the_first_block_unless_the_result_is_empty(self):
        for text, taken in (("yes", "then"), (" ", "then"), ("0", "then"), ("\\n", "then"), ("", "else")):
            self.check_done(f'if "{text}"\nput 1 "then"\nelse\nput 1 "else"\nend', taken)

    def test_if_without_else(self):
        self.check_done('if ""\nfail\nend\nput 1 "behind"', "behind")
        self.check_done('if "x"\nput 1 "in"\nend', "in")

    def test_what_if_assigns_is_there_in_its_block(self):
        self.check_done('let x "a"\nif "y"\nlet x "b"\nlet y x\nput 1 x + y\nend', "bb")
        self.check_done('let x "a"\nif "y"\nlet x "b"\nend\nput 1 x', "b")

    def test_each_goes_over_the_lines(self):
        self.check_done('let x ""\neach l in "b\\na\\nb"\nlet x x + "<" + l + ">"\nend\nput 1 x', "<b><a><b>")

    def test_each_over_the_empty_text_does_nothing(self):
        self.check_done('each l in ""\nfail\nend\nput 1 "x"', "x")

    def test_each_takes_empty_lines_too(self):
        for text, lines in (("\\n", "<><>"), ("a\\n", "<a><>"), ("\\na", "<><a>"), ("a\\n\\nb", "<a><><b>")):
            self.check_done(f'let x ""\neach l in "{text}"\nlet x x + "<" + l + ">"\nend\nput 1 x', lines)

    def test_each_evaluates_its_expression_once(self):
        body = 'let s "1\\n2"\nlet x ""\neach l in s\nlet s "9\\n9\\n9"\nlet x x + l\nend\nput 1 x + s'
        self.check_done(body, "129\n9\n9")

    def test_each_assigns_anew_before_each_time(self):
        self.check_done('let x ""\neach l in "1\\n2"\nlet x x + l\nlet l "9"\nlet x x + l\nend\nput 1 x', "1929")

    def test_each_and_let_assign_to_the_same_variable(self):
        self.check_done('let l "0"\neach l in "1\\n2"\nlet y l\nend\nput 1 l', "2")
        self.check_done('let l "0"\neach l in ""\nlet y l\nend\nput 1 l', "0")

    def test_each_may_assign_to_the_stem(self):
        body = 'each x in "1"\nlet y stem\nend\nput 1 stem'
        self.check_done(body, "main", head="rule *.o :", stem="main")

    def test_blocks_in_blocks(self):
        body = ('let x ""\neach l in "1\\n2"\neach m in "a\\nb"\nif same(l + m, "2a")\nlet x x + "!"\nelse\n'
                'let x x + l + m\nend\nend\nend\nput 1 x')
        self.check_done(body, "1a1b!2b")

    def test_fail(self):
        self.check_failed("fail", "failed")
        self.check_failed('put 1 "x"\nfail', "failed")
        self.check_failed('if "x"\nfail\nend\nput 1 "x"', "failed")
        self.check_failed('each l in "1\\n2"\nif same(l, "2")\nfail\nend\nend\nput 1 "x"', "failed")

    def test_missing_output(self):
        self.check_failed("", "missing output")
        self.check_failed('let x "a"', "missing output")
        self.check_failed('put 2 "b"', "missing output", head="rule z y :")
        self.check_failed('put 1 "a"', "missing output", head="rule z y :")
        self.check_failed('put 1 "a"\nput 3 "c"', "missing output", head="rule z y x :")
        self.check_failed('if ""\nput 1 "a"\nend', "missing output")

    def test_put_twice(self):
        self.check_failed('put 1 "a"\nput 1 "a"', "put twice")
        self.check_failed('put 1 ""\nput 1 "a"', "put twice")
        self.check_failed('put 2 "a"\nput 1 "a"\nput 2 "b"', "put twice", head="rule z y :")
        self.check_failed('each l in "1\\n2"\nput 1 l\nend', "put twice")

    def test_put_evaluates_before_it_fails(self):
        self.check_failed('put 1 "a"\nput 1 read("A")', "invalid path")
        self.check_failed('put 1 "a"\nput 1 read("b")', "put twice", file("b", "x"))
        self.check_held('put 1 "a"\nput 1 read("b")', [link("b", None), (("file", "b"), OTHER)])

    def test_a_run_that_fails_has_no_outputs(self):
        run, _ = self.run_body('put 1 "a"\nfail')
        self.assertEqual(run.outputs, ())


class TestExpressions(RunCase):
    def test_joined_terms(self):
        self.check_done('let x "b"\nput 1 "a" + x + "" + upper("c")', "abC")

    def test_functions_get_their_arguments_in_order(self):
        self.check_done('put 1 swap("abc", "b", "x") + join("1\\n2", "-") + same("a", "a")', "axc1-2yes")

    def test_calls_in_calls(self):
        self.check_done('put 1 count(sort(upper("b\\na"))) + first(rest("1\\n2\\n3"))', "22")

    def test_evaluation_goes_from_the_left_to_the_right(self):
        answers = [setting("one", "1"), setting("two", "2"), setting("three", "3")]
        self.check_done('put 1 setting("one") + setting("two") + setting("three")', "123", answers=answers)
        self.check_done('put 1 swap(setting("one"), setting("two"), setting("three"))', "1", answers=answers)

    def test_all_arguments_come_before_the_function(self):
        answers = [setting("s", "b"), *file("a", "x"), *file("b", "y")]
        self.check_done('put 1 same(read(join(setting("s"), "") + ""), "")', "",
                        answers=[setting("s", "b"), *file("b", "y")])
        self.check_failed('put 1 list(setting("s"), read("A"))', "invalid path", answers[:1])
        self.check_failed('put 1 list("A", read("a"))', "invalid path", file("a", "x"))

    def test_strings_have_at_most_400_characters(self):
        run, _ = self.run_rule((("put", 1, ("text", LONG)),))
        self.check(run, "done", (LONG,))
        run, _ = self.run_rule((("put", 1, ("text", TOO_LONG)),))
        self.check(run, "failed", (), "too long")

    def test_joined_expressions_have_at_most_400_characters(self):
        parts = (("text", "x" * 200), ("text", "x" * 199), ("text", "y"))
        run, _ = self.run_rule((("put", 1, ("join", parts)),))
        self.check(run, "done", ("x" * 399 + "y",))
        run, _ = self.run_rule((("put", 1, ("join", parts + (("text", "z"),))),))
        self.check(run, "failed", (), "too long")

    def test_the_length_of_a_joined_expression_is_checked_after_all_its_terms(self):
        look = ("call", "setting", (("text", "s"),))
        joined = ("join", (("text", LONG), ("text", LONG), look))
        run, view = self.run_rule((("put", 1, joined),), [setting("s", "")])
        self.check(run, "failed", (), "too long")
        self.assertEqual(view.asked, [("setting", "s")])
        wrong = ("call", "read", (("text", "A"),))
        run, _ = self.run_rule((("put", 1, ("join", (("text", LONG), ("text", LONG), wrong))),))
        self.check(run, "failed", (), "invalid path")

    def test_a_term_that_is_too_long_ends_a_joined_expression(self):
        look = ("call", "setting", (("text", "s"),))
        run, view = self.run_rule((("put", 1, ("join", (("text", TOO_LONG), look))),))
        self.check(run, "failed", (), "too long")
        self.assertEqual(view.asked, [])

    def test_joined_empty_texts(self):
        self.check_done('put 1 "" + ""', "")

    def test_calls_have_at_most_400_characters(self):
        for length, outcome in ((400, "done"), (401, "failed")):
            swap = ("call", "swap", (("text", "ab"), ("text", "b"), ("text", "x" * (length - 1))))
            run, _ = self.run_rule((("put", 1, swap),))
            self.assertEqual((run.outcome, run.failure), (outcome, None if outcome == "done" else "too long"))

    def test_a_call_that_is_too_long_ends_the_call_around_it(self):
        swap = ("call", "swap", (("text", "aa"), ("text", "a"), ("text", LONG)))
        look = ("call", "setting", (("text", "s"),))
        run, view = self.run_rule((("put", 1, ("call", "same", (swap, look))),))
        self.check(run, "failed", (), "too long")
        self.assertEqual(view.asked, [])
        run, _ = self.run_rule((("put", 1, ("call", "count", (swap,))),))
        self.check(run, "failed", (), "too long")

    def test_too_long_comes_before_put_twice(self):
        run, _ = self.run_rule((("put", 1, ("text", "")), ("put", 1, ("text", TOO_LONG))))
        self.check(run, "failed", (), "too long")


class TestLooks(RunCase):
    def test_read(self):
        self.check_done('put 1 read("d/b")', "text\n", answers=file("d/b", "text\n"))
        self.check_done('put 1 read("b")', "", answers=file("b", ""))
        self.check_done('put 1 read("b")', LONG, answers=file("b", LONG))

    def test_read_without_a_file(self):
        self.check_failed('put 1 read("b")', "no file", file("b", None))

    def test_read_of_what_is_no_path(self):
        for path in ("", "A", "a/", "/a", ".a", "a//b", "a/b/c/d/e", "x" * 13, "*", "a b", "a\\nb"):
            self.check_failed(f'put 1 read("{path}")', "invalid path")

    def test_read_what_is_too_long(self):
        self.check_failed('put 1 read("b")', "too long", file("b", TOO_LONG))

    def test_has(self):
        self.check_done('put 1 has("d/b")', "yes", answers=there("d/b", True))
        self.check_done('put 1 has("d/b")', "", answers=there("d/b", False))

    def test_has_of_what_is_no_path(self):
        for path in ("", "A", "a/", "*", "a/b/c/d/e"):
            self.check_failed(f'put 1 has("{path}")', "invalid path")

    def test_list(self):
        self.check_done('put 1 list("d", "*.c")', "d/a.c\nd/b.c", answers=[listing("d", "*.c", "d/a.c\nd/b.c")])
        self.check_done('put 1 list("", "a*")', "", answers=[listing("", "a*", "")])
        self.check_done('put 1 list("a/b/c/d", "*")', "x", answers=[listing("a/b/c/d", "*", "x")])

    def test_list_of_what_is_no_directory(self):
        for folder in ("/", "A", "d/", ".", "a/b/c/d/e", "*"):
            self.check_failed(f'put 1 list("{folder}", "*")', "invalid path")

    def test_list_of_what_is_no_name_pattern(self):
        for pattern in ("", "a", "**", "d/*", "*/a", "A*", ".*", "x" * 12 + "*"):
            self.check_failed(f'put 1 list("d", "{pattern}")', "invalid pattern")

    def test_list_looks_at_the_directory_first(self):
        self.check_failed('put 1 list("A", "A")', "invalid path")

    def test_a_listing_that_is_too_long(self):
        self.check_done('put 1 list("d", "*")', LONG, answers=[listing("d", "*", LONG)])
        self.check_failed('put 1 list("d", "*")', "too long", [listing("d", "*", TOO_LONG)])

    def test_setting(self):
        self.check_done('put 1 setting("mode")', "fast", answers=[setting("mode", "fast")])
        self.check_done('put 1 setting("mode")', "", answers=[setting("mode", "")])

    def test_a_setting_that_there_is_not(self):
        self.check_done('put 1 setting("mode")', "", answers=[setting("mode", None)])

    def test_setting_asks_nothing_if_the_name_is_no_identifier(self):
        for name in ("", "A", "1a", "_a", "a.b", "a b", "x" * 13):
            self.check_done(f'put 1 setting("{name}")', "")

    def test_a_setting_that_is_too_long(self):
        self.check_failed('put 1 setting("mode")', "too long", [setting("mode", TOO_LONG)])

    def test_what_looks_need_is_computed(self):
        self.check_done('let d "src"\nput 1 read(d + "/" + stem + ".c")', "int", answers=file("src/main.c", "int"),
                        head="rule *.o :", stem="main")

    def test_needs_are_in_the_order_of_the_looks(self):
        answers = [setting("s", "d"), listing("d", "*", "d/x\nd/y"), *file("d/x", "1"), *there("q", False),
                   *file("d/y", "2")]
        body = ('let t ""\neach p in list(setting("s"), "*")\nlet t t + read(p)\nif has("q")\nfail\nend\nend\n'
                'put 1 t')
        self.check_done(body, "12", answers=answers)

    def test_a_question_is_asked_once(self):
        body = 'put 1 read("b") + read("b") + has("b") + setting("s") + setting("s") + list("", "*") + list("", "*")'
        answers = [*file("b", "x"), (("has", "b"), True), setting("s", "y"), listing("", "*", "z")]
        self.check_done(body, "xxyesyyzz", answers=answers)

    def test_answers_of_none_and_false_are_used_again(self):
        body = 'put 1 has("b") + has("b") + setting("s") + setting("s")'
        self.check_done(body, "", answers=[*there("b", False), setting("s", None)])

    def test_questions_that_differ_are_all_asked(self):
        body = 'put 1 list("d", "*") + list("d", "a*") + list("", "*")'
        answers = [listing("d", "*", "1"), listing("d", "a*", "2"), listing("", "*", "3")]
        self.check_done(body, "123", answers=answers)

    def test_a_failed_run_tells_what_it_saw(self):
        run = self.check_failed('let x read("b")\nlet y read("A")\nput 1 x', "invalid path", file("b", "x"))
        self.assertEqual(run.needs, (("link", "b", None), ("file", "b", content_key("x"))))


class TestSealed(RunCase):
    HEAD = "sealed a : b d/c"

    def test_inputs_may_be_read(self):
        answers = [*file("b", "1"), *file("d/c", "2"), (("has", "b"), True)]
        self.check_done('put 1 read("b") + read("d/c") + has("b")', "12yes", answers=answers, head=self.HEAD)

    def test_other_paths_may_not_be_looked_at(self):
        for path in ("a", "c", "d", "b/b"):
            self.check_failed(f'put 1 read("{path}")', "sealed", head=self.HEAD)
            self.check_failed(f'put 1 has("{path}")', "sealed", head=self.HEAD)

    def test_what_is_no_path_is_told_first(self):
        self.check_failed('put 1 read("B")', "invalid path", head=self.HEAD)
        self.check_failed('put 1 has("")', "invalid path", head=self.HEAD)

    def test_the_inputs_are_those_of_the_job(self):
        head = "sealed *.o : *.c"
        self.check_done('put 1 read("m.c")', "x", answers=file("m.c", "x"), head=head, stem="m")
        self.check_failed('put 1 read("n.c")', "sealed", head=head, stem="m")

    def test_links_from_inputs_are_followed(self):
        answers = [link("b", "e"), *file("e", "x")]
        self.check_done('put 1 read("b")', "x", answers=answers, head=self.HEAD)

    def test_a_path_at_the_end_of_links_is_no_input(self):
        answers = [link("b", "e"), *file("e", "x")]
        self.check_failed('put 1 read("b") + read("e")', "sealed", answers, head=self.HEAD)

    def test_list_is_not_allowed(self):
        self.check_failed('put 1 list("d", "*")', "sealed", head=self.HEAD)
        self.check_failed('put 1 list("A", "*")', "sealed", head=self.HEAD)
        self.check_failed('put 1 list("d", "A")', "sealed", head=self.HEAD)

    def test_settings_are_allowed(self):
        self.check_done('put 1 setting("s")', "x", answers=[setting("s", "x")], head=self.HEAD)

    def test_a_sealed_rule_without_inputs(self):
        self.check_failed('put 1 read("b")', "sealed", head="sealed a :")


class TestLinks(RunCase):
    def chain(self, count):
        """The answers about so many links, one behind the other."""
        return [link("l" + str(at), "l" + str(at + 1)) for at in range(count)]

    def test_links_are_followed(self):
        answers = [link("b", "d/c"), link("d/c", "e"), *file("e", "x")]
        self.check_done('put 1 read("b")', "x", answers=answers)
        answers = [link("b", "e"), *there("e", True)]
        self.check_done('put 1 has("b")', "yes", answers=answers)

    def test_a_link_that_leads_to_nothing(self):
        self.check_failed('put 1 read("b")', "no file", [link("b", "e"), *file("e", None)])
        self.check_done('put 1 has("b")', "", answers=[link("b", "e"), *there("e", False)])

    def test_eight_links(self):
        self.check_done('put 1 read("l0")', "x", answers=self.chain(8) + file("l8", "x"))
        self.check_done('put 1 has("l0")', "yes", answers=self.chain(8) + there("l8", True))

    def test_nine_links(self):
        self.check_failed('put 1 read("l0")', "too many links", self.chain(9))
        self.check_failed('put 1 has("l0")', "too many links", self.chain(9))

    def test_seven_links_and_a_held_one(self):
        self.check_held('put 1 read("l0")', self.chain(8) + [(("link", "l8"), OTHER)])

    def test_links_in_a_circle(self):
        self.check_failed('put 1 read("b")', "too many links", [link("b", "b")])
        self.check_failed('put 1 has("b")', "too many links", [link("b", "c"), link("c", "b")])

    def test_links_that_were_asked_before_are_not_asked_again(self):
        answers = [link("b", "e"), *file("e", "x"), link("c", "b")]
        self.check_done('put 1 read("b") + read("c") + read("e")', "xxx", answers=answers)

    def test_listings_follow_no_links(self):
        self.check_done('put 1 list("b", "*")', "b/x", answers=[listing("b", "*", "b/x")])


class TestSteps(RunCase):
    def test_statements_are_steps(self):
        self.assertEqual(self.check_failed("", "missing output").steps, 0)
        self.assertEqual(self.check_done('put 1 ""', "").steps, 1)
        self.assertEqual(self.check_done('let x ""\nlet y x\nput 1 ""', "").steps, 3)
        self.assertEqual(self.check_failed("fail", "failed").steps, 1)

    def test_statements_in_blocks_are_steps_when_they_are_executed(self):
        self.assertEqual(self.check_done('if "x"\nlet x ""\nput 1 x\nend', "").steps, 3)
        self.assertEqual(self.check_done('if ""\nlet x ""\nelse\nput 1 ""\nend', "").steps, 2)
        self.assertEqual(self.check_done('if ""\nlet x ""\nend\nput 1 ""', "").steps, 2)
        self.assertEqual(self.check_done('each l in ""\nlet x l\nend\nput 1 ""', "").steps, 2)
        self.assertEqual(self.check_done('each l in "1\\n2\\n3"\nlet x l\nlet y l\nend\nput 1 ""', "").steps, 8)

    def test_calls_are_steps(self):
        self.assertEqual(self.check_done('put 1 upper("a")', "A").steps, 2)
        self.assertEqual(self.check_done('put 1 upper(upper("a")) + upper("b")', "AB").steps, 4)
        self.assertEqual(self.check_done('put 1 setting("A")', "").steps, 2)
        self.assertEqual(self.check_done('each l in upper("a\\nb")\nlet x l\nend\nput 1 ""', "").steps, 5)

    def test_looks_are_no_steps_of_their_own(self):
        answers = [link("b", "c"), *file("c", "x")]
        self.assertEqual(self.check_done('put 1 read("b")', "x", answers=answers).steps, 2)

    def test_strings_variables_and_sums_are_no_steps(self):
        self.assertEqual(self.check_done('put 1 stem + "a" + stem + "b"', "ab").steps, 1)

    def test_a_call_is_a_step_before_it_fails(self):
        self.assertEqual(self.check_failed('put 1 read("A")', "invalid path").steps, 2)
        self.assertEqual(self.check_failed('put 1 upper(read("A"))', "invalid path").steps, 2)
        self.assertEqual(self.check_failed('let x ""\nput 1 list("d", "")', "invalid pattern").steps, 3)

    def test_a_call_is_a_step_before_it_is_held(self):
        self.assertEqual(self.check_held('put 1 read("b")', [(("link", "b"), OTHER)]).steps, 2)

    def lines(self, count):
        """The answers about a file with so many lines."""
        return file("s", "\n" * (count - 1))

    def test_300_steps(self):
        # The `each`, its `read` and the `put` are steps too.
        body = 'each l in read("s")\nlet x l\nend\nput 1 "x"'
        run = self.check_done(body, "x", answers=self.lines(297))
        self.assertEqual(run.steps, 300)

    def test_a_statement_as_the_301st_step(self):
        body = 'each l in read("s")\nlet x l\nend\nput 1 "x"'
        run = self.check_failed(body, "too many steps", self.lines(298))
        self.assertEqual(run.steps, 300)

    def test_a_statement_in_a_block_as_the_301st_step(self):
        body = 'put 1 ""\neach l in read("s")\nlet x l\nend'
        self.assertEqual(self.check_done(body, "", answers=self.lines(297)).steps, 300)
        self.assertEqual(self.check_failed(body, "too many steps", self.lines(298)).steps, 300)

    def test_a_fail_as_the_301st_step(self):
        body = 'each l in read("s")\nlet x l\nend\nfail'
        self.assertEqual(self.check_failed(body, "failed", self.lines(297)).steps, 300)
        self.assertEqual(self.check_failed(body, "too many steps", self.lines(298)).steps, 300)

    def test_a_call_as_the_301st_step(self):
        body = 'put 1 ""\neach l in read("s")\nlet x l\nend\nlet y {}'
        for call in ('read("b")', 'upper("a")', 'read("A")', 'list("A", "A")', 'setting("A")'):
            run = self.check_failed(body.replace("{}", call), "too many steps", self.lines(297 - 1))
            self.assertEqual(run.steps, 300)

    def test_the_arguments_come_before_the_step_of_their_call(self):
        body = 'put 1 ""\neach l in read("s")\nlet x l\nend\nlet y same(read("A"), "")'
        self.check_failed(body, "invalid path", self.lines(297 - 2))
        self.check_failed(body, "too many steps", self.lines(297 - 1))
        body = 'put 1 ""\neach l in read("s")\nlet x l\nend\nlet y upper(upper("a"))'
        self.check_failed(body, "too many steps", self.lines(297 - 2))
        self.check_done(body, "", answers=self.lines(297 - 3))

    def test_a_call_with_the_300th_step_looks(self):
        body = 'put 1 ""\neach l in read("s")\nlet x l\nend\nlet y read("b")'
        self.check_done(body, "", answers=self.lines(297 - 2) + file("b", "x"))
        self.check_failed(body, "no file", self.lines(297 - 2) + file("b", None))

    def test_too_many_steps_comes_before_put_twice(self):
        body = 'put 1 ""\neach l in read("s")\nlet x l\nend\nput 1 ""'
        self.check_failed(body, "put twice", self.lines(297 - 1))
        self.check_failed(body, "too many steps", self.lines(297))

    def test_too_many_steps_comes_before_too_long(self):
        long = ("call", "swap", (("text", "aa"), ("text", "a"), ("text", LONG)))
        read = ("call", "read", (("text", "s"),))
        for count, failure in ((297 - 1, "too long"), (297, "too many steps")):
            body = (("each", "l", read, (("let", "x", ("name", "l")),)), ("let", "y", long))
            run, _ = self.run_rule(body, self.lines(count))
            self.check(run, "failed", (), failure)

    def test_the_expression_of_a_statement_that_is_too_much_is_not_evaluated(self):
        body = 'each l in read("s")\nlet x l\nend\nlet y setting("q")'
        self.check_failed(body, "too many steps", self.lines(298))


class TestManyLooks(RunCase):
    def names(self, count):
        return ["s" + str(at) for at in range(count)]

    def answers(self, count):
        """The answers about a listing of so many names, and about the settings of these names."""
        names = self.names(count)
        return [listing("", "*", "\n".join(names))] + [setting(name, "") for name in names]

    BODY = 'each s in list("", "*")\nlet x setting(s)\nend\nput 1 ""'

    def test_60_looks(self):
        run = self.check_done(self.BODY, "", answers=self.answers(59))
        self.assertEqual(len(run.needs), 60)

    def test_61_looks(self):
        answers = self.answers(60)
        run = self.check_failed(self.BODY, "too many looks", answers[:-1])
        self.assertEqual(len(run.needs), 60)

    def test_a_question_that_was_asked_before_is_not_counted(self):
        body = self.BODY.replace('put 1 ""', 'put 1 setting("s0") + list("", "*") + setting("A")')
        names = "\n".join(self.names(59))
        self.check_done(body, names, answers=self.answers(59))

    def test_each_link_is_a_look(self):
        body = self.BODY.replace('put 1 ""', 'put 1 read("b")')
        self.check_done(body, "x", answers=self.answers(57) + file("b", "x"))
        self.check_failed(body, "too many looks", self.answers(58) + file("b", "x")[:1])
        self.check_failed(body, "too many looks", self.answers(59))

    def test_a_link_too_many_comes_as_a_look_too_many(self):
        body = self.BODY.replace('put 1 ""', 'put 1 read("b")')
        self.check_failed(body, "too many links", self.answers(58) + [link("b", "b")])

    def test_the_61st_question_is_not_asked_even_if_it_would_be_held(self):
        body = self.BODY.replace('put 1 ""', 'put 1 setting("q")')
        self.check_failed(body, "too many looks", self.answers(59))

    def test_too_many_steps_comes_before_too_many_looks(self):
        body = 'each l in read("t")\nlet y l\nend\n' + self.BODY
        # The call that would look once too often is the step behind 2 + lines + 2 + 57 * 2 + 1 steps.
        for lines, failure in ((180, "too many looks"), (181, "too many steps")):
            answers = file("t", "\n" * (lines - 1)) + self.answers(58)[:-1]
            run = self.check_failed(body, failure, answers)
            self.assertEqual((run.steps, len(run.needs)), (300, 60))


class TestHeld(RunCase):
    def test_held_at_each_kind_of_question(self):
        self.check_held('put 1 read("b")', [(("link", "b"), OTHER)])
        self.check_held('put 1 read("b")', [link("b", None), (("file", "b"), OTHER)])
        self.check_held('put 1 has("b")', [link("b", None), (("has", "b"), OTHER)])
        self.check_held('put 1 list("", "*")', [(("listing", "", "*"), OTHER)])
        self.check_held('put 1 setting("s")', [(("setting", "s"), OTHER)])

    def test_a_run_is_held_at_the_first_question_that_is_held(self):
        answers = [setting("s", "x"), *file("b", "y"), link("c", None), (("file", "c"), OTHER)]
        self.check_held('put 1 setting("s") + read("b") + read("c") + read("d")', answers)

    def test_a_held_run_keeps_its_steps(self):
        run = self.check_held('let x ""\nput 1 upper(read("b"))', [link("b", None), (("file", "b"), OTHER)])
        self.assertEqual(run.steps, 3)

    def test_a_failure_ahead_of_a_held_question_counts(self):
        self.check_failed('put 1 read("A") + read("b")', "invalid path")
        self.check_failed('fail\nput 1 read("b")', "failed")

    def test_the_same_run_with_the_answer_there(self):
        body = 'put 1 read("b") + read("c")'
        held = [*file("b", "1"), link("c", None), (("file", "c"), OTHER)]
        self.check_held(body, held)
        run = self.check_done(body, "12", answers=[*file("b", "1"), *file("c", "2")])
        self.assertEqual(run.steps, 3)
        self.check_failed(body, "no file", [*file("b", "1"), *file("c", None)])

    def test_runs_do_not_know_of_one_another(self):
        book = book_of('rule a :\nput 1 read("b")\nend')
        job = make_job(book, 0, "")
        for text in ("1", "2", "1"):
            view = Scripted(file("b", text))
            run = run_tool(book, job, view)
            self.assertEqual((run.outputs, run.steps), ((text,), 2))
            self.assertEqual(len(view.asked), 2)

    def test_the_rule_is_that_of_the_job(self):
        book = book_of('rule a :\nput 1 "first"\nend\nrule b* c* :\nput 2 "second"\nput 1 stem\nend')
        run = run_tool(book, make_job(book, 1, "x"), Scripted([]))
        self.assertEqual(run.outputs, ("x", "second"))


if __name__ == "__main__":
    unittest.main()
