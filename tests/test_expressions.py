"""Points 42 to 44: expressions, their errors and their form."""

import itertools
import unittest

from kilnyard.errors import BuildError
from kilnyard.expressions import BadToken, parse_expression
from kilnyard.scanning import scan_line

COUNTS = {"read": 1, "has": 1, "list": 2, "setting": 1, "same": 2, "not": 1, "upper": 1, "count": 1, "sort": 1,
          "first": 1, "rest": 1, "join": 2, "swap": 3}
KNOWN = ["stem", "x", "long_name_12"]
X = ("name", "x")


def text(value):
    return ("text", value)


def call(function, *arguments):
    return ("call", function, arguments)


def parse(line, start=0, known=KNOWN):
    return parse_expression(scan_line("rules", 1, line), start, known)


def nested(count, inner='"a"', function="not"):
    """So many calls inside of one another."""
    return (function + "(") * count + inner + ")" * count


def full_calls():
    """A call of each function with as many arguments as it has."""
    return [(name, count, name + "(" + ", ".join(["x"] * count) + ")") for name, count in COUNTS.items()]


class ExpressionCase(unittest.TestCase):
    def check(self, line, expected, behind=None):
        """The line is this expression; behind tells where it ends if it is not the whole line."""
        with self.subTest(line=line):
            tokens = scan_line("rules", 1, line)
            end = len(tokens) if behind is None else behind
            self.assertEqual(parse_expression(tokens, 0, KNOWN), (expected, end))

    def check_raises(self, marked, reason, known=KNOWN):
        """The line without its @ raises this error at the place of the @, or with the column 0 if it has none."""
        line = marked.replace("@", "", 1)
        with self.subTest(line=line):
            tokens = scan_line("rules", 1, line)
            before = (list(tokens), list(known))
            with self.assertRaises(BuildError) as caught:
                parse_expression(tokens, 0, known)
            self.assertIs(caught.exception.__class__, BadToken)
            self.assertEqual((caught.exception.column, caught.exception.reason), (marked.find("@") + 1, reason))
            self.assertEqual((tokens, known), before)


class TestTerms(ExpressionCase):
    def test_strings(self):
        for line, value in (('"a"', "a"), ('""', ""), (r'"a\n\"\\"', 'a\n"\\'), ('"x"', "x"), ('"("', "(")):
            self.check(line, text(value))

    def test_variables(self):
        self.check("x", X)
        self.check("stem", ("name", "stem"))
        self.check("long_name_12", ("name", "long_name_12"))

    def test_a_name_of_a_function_may_be_a_variable(self):
        self.assertEqual(parse("has", known=["has"]), (("name", "has"), 1))
        self.assertEqual(parse("has(has)", known=["has"]), (call("has", ("name", "has")), 4))
        self.check_raises("@has", "unknown name")

    def test_words_that_are_no_identifiers(self):
        for word in ("1", "A", "xY", "_x", "a.b", "a/b", ":", "x*", "x#", "a" * 13, "\\", "'x'"):
            self.check_raises("@" + word, "invalid name")
            self.check_raises('"a" + @' + word, "invalid name")
            self.check_raises("has(@" + word + ")", "invalid name")
            self.check_raises("@" + word, "invalid name", [word])

    def test_unknown_names(self):
        for word in ("y", "xx", "let", "in", "a" * 12):
            self.check_raises("@" + word, "unknown name")
            self.check_raises("x + @" + word + " + z", "unknown name")
            self.check_raises("list(x, @" + word + ")", "unknown name")

    def test_stem_is_known_only_if_it_is_listed(self):
        self.check_raises("@stem", "unknown name", [])
        self.check_raises("@stem", "unknown name", ["x"])
        self.assertEqual(parse("stem", known=["stem"]), (("name", "stem"), 1))

    def test_signs_in_the_place_of_a_term(self):
        for sign in "(),+":
            self.check_raises("@" + sign, "unexpected token")
            self.check_raises("x + @" + sign, "unexpected token")
            self.check_raises("@" + sign + ' "a"', "unexpected token")
            self.check_raises('has("a" + @' + sign + ")", "unexpected token")
            self.check_raises('list("a" + @' + sign + ', "b")', "unexpected token")

    def test_signs_in_the_place_of_an_argument(self):
        for sign in "(,+":
            self.check_raises("has(@" + sign, "unexpected token")
            self.check_raises("has(@" + sign + " x)", "unexpected token")
            self.check_raises("list(x, @" + sign + " x)", "unexpected token")

    def test_there_are_no_parentheses_around_expressions(self):
        self.check_raises('@("a")', "unexpected token")
        self.check_raises('has(@("a"))', "unexpected token")

    def test_the_end_of_the_line_in_each_place(self):
        for line in ("", "x +", '"a" + "b" +', "has(", "has(x", "has(x +", "list(x", "list(x,", "list(x, x",
                     "swap(x, x", "has(has(x)", 'swap("a", "b",', "x + has("):
            self.check_raises(line, "missing token")

    def test_starting_behind_the_last_token(self):
        for line in ("", "x", 'x + "a"'):
            with self.assertRaises(BadToken) as caught:
                parse(line, len(scan_line("rules", 1, line)))
            self.assertEqual((caught.exception.column, caught.exception.reason), (0, "missing token"))


class TestJoined(ExpressionCase):
    def test_one_two_and_three_terms(self):
        self.check('"a"', text("a"))
        self.check('"a" + "b"', ("join", (text("a"), text("b"))))
        self.check('"a" + x + "b"', ("join", (text("a"), X, text("b"))))
        self.check('x+x+x+x', ("join", (X, X, X, X)))

    def test_terms_that_are_calls(self):
        self.check('has(x) + not("a")', ("join", (call("has", X), call("not", text("a")))))
        self.check("has(x + x)", call("has", ("join", (X, X))))
        self.check("same(x + x, x)", call("same", ("join", (X, X)), X))

    def test_terms_and_arguments_are_tuples(self):
        joined, _ = parse('list("a" + x, x) + x')
        self.assertIs(type(joined), tuple)
        self.assertIs(type(joined[1]), tuple)
        self.assertIs(type(joined[1][0][2]), tuple)
        self.assertIs(type(joined[1][0][2][0][1]), tuple)


class TestTheIndexBehind(ExpressionCase):
    def test_the_whole_line(self):
        for line, count in (("x", 1), ('x + "a"', 3), ("has(x)", 4), ("list(x, x) + x", 8)):
            self.assertEqual(parse(line)[1], count)

    def test_the_first_token_that_is_no_plus(self):
        self.check("x x", X, 1)
        self.check('"a" "b"', text("a"), 1)
        self.check('"a" (', text("a"), 1)
        self.check("x )", X, 1)
        self.check("x , x", X, 1)
        self.check("x + x x + x", ("join", (X, X)), 3)
        self.check("has(x) (x)", call("has", X), 4)
        self.check("has(x) )", call("has", X), 4)
        self.check("has(x), x", call("has", X), 4)
        self.check("x 1", X, 1)

    def test_a_plus_goes_on(self):
        self.check_raises("x + @1", "invalid name")
        self.check_raises("x + @y + x", "unknown name")

    def test_starting_at_each_index(self):
        self.assertEqual(parse("let x has(x)", 2), (call("has", X), 6))
        self.assertEqual(parse("put 1 x + x", 2), (("join", (X, X)), 5))
        self.assertEqual(parse("each x in x y", 3), (X, 4))
        self.assertEqual(parse("+ ) x )", 2), (X, 3))


class TestCalls(ExpressionCase):
    def test_each_function_with_as_many_arguments_as_it_has(self):
        for name, count, line in full_calls():
            self.check(line, call(name, *[X] * count))
            self.check(line + " + " + line, ("join", (call(name, *[X] * count),) * 2))

    def test_one_argument_too_few(self):
        for name, count, line in full_calls():
            self.check_raises(name + "(" + ", ".join(["x"] * (count - 1)) + "@)", "missing argument")
            self.check_raises(name + "(" + "x, " * (count - 1) + "@)", "missing argument")
            self.check_raises(name + "(@)", "missing argument")

    def test_one_argument_too_many(self):
        for name, count, line in full_calls():
            self.check_raises(line.replace(")", "@, x)"), "extra argument")
            self.check_raises(line.replace(")", "@,)"), "extra argument")
            self.check_raises(line.replace(")", "@,"), "extra argument")

    def test_a_token_behind_an_argument(self):
        for name, count, line in full_calls():
            for token in ("x", '"a"', "(", "1", "has(x)"):
                if token != "(":
                    self.check_raises(line.replace(")", " @" + token + ")"), "unexpected token")
                self.check_raises(name + '("a" @' + token, "unexpected token")

    def test_a_call_with_spaces(self):
        self.check('has  ( "a" )', call("has", text("a")))
        self.check('list("a" ,"b")', call("list", text("a"), text("b")))

    def test_unknown_functions(self):
        for word in ("x", "stem", "puts", "let", "Has", "has1", "READ", "1", "a/b", ":", "a" * 13, "no"):
            self.check_raises("@" + word + '("a")', "unknown function")
            self.check_raises("@" + word + "(", "unknown function")
            self.check_raises("@" + word + "()", "unknown function")
            self.check_raises("x + has(@" + word + " (x))", "unknown function")

    def test_a_closing_sign_behind_a_plus_is_no_missing_argument(self):
        self.check_raises("has(x + @)", "unexpected token")
        self.check_raises("list(x, x + @)", "unexpected token")

    def test_calls_inside_of_calls(self):
        self.check("has(read(x))", call("has", call("read", X)))
        self.check('swap(join(x, "a"), x, first(rest(x)))',
                   call("swap", call("join", X, text("a")), X, call("first", call("rest", X))))

    def test_six_calls_inside_of_one_another(self):
        expected = text("a")
        for count in range(1, 7):
            expected = call("not", expected)
            self.check(nested(count), expected)

    def test_the_seventh_call_is_too_deep(self):
        self.check_raises("not(" * 6 + '@not("a"' + ")" * 7, "too deep")
        self.check_raises("not(" * 6 + "@not(", "too deep")
        self.check_raises("not(" * 6 + "@" + nested(50), "too deep")

    def test_too_deep_comes_before_an_unknown_function(self):
        self.check_raises("not(" * 6 + "@y(x" + ")" * 7, "too deep")
        self.check_raises("not(" * 5 + "@y(x" + ")" * 6, "unknown function")

    def test_only_calls_around_count(self):
        deep = nested(5, "x")
        self.check_raises("list(" + deep + ", " + deep + ") + " + nested(6) + " + @y", "unknown name")
        self.check_raises("list(" + deep + ", " + "not(" * 5 + "@not(x", "too deep")
        self.check_raises("list(x, x + " + "not(" * 5 + "x + @not(x", "too deep")

    def test_a_variable_inside_of_six_calls(self):
        self.check_raises("not(" * 6 + "@y" + ")" * 6, "unknown name")


class TestTheOrderOfErrors(ExpressionCase):
    def test_tokens_are_checked_from_the_left(self):
        self.check_raises("@y + z()", "unknown name")
        self.check_raises("list(@y)", "unknown name")
        self.check_raises("@y(", "unknown function")
        self.check_raises("has(@,", "unexpected token")
        self.check_raises("list(x @x", "unexpected token")
        self.check_raises("has(x@, )", "extra argument")
        self.check_raises("list(x@) + 1", "missing argument")
        self.check_raises("has(x) + @1 +", "invalid name")


def valid_expressions(most):
    """All expressions of at most so many tokens over a few words, from the written form to the tuple."""
    terms = {1: {("x",): X, ('"a"',): text("a")}}
    found = {}
    for size in range(1, most + 1):
        terms.setdefault(size, {})
        for left in [tokens for tokens in found if len(tokens) == size - 3]:
            terms[size][("has", "(", *left, ")")] = call("has", found[left])
        for left, right in itertools.product(list(found), repeat=2):
            if len(left) + len(right) == size - 4:
                terms[size][("list", "(", *left, ",", *right, ")")] = call("list", found[left], found[right])
        for last, term in terms[size].items():
            found[last] = term
        for before in [tokens for tokens in found if len(tokens) < size - 1]:
            for last, term in terms[size - 1 - len(before)].items():
                front = found[before][1] if found[before][0] == "join" else (found[before],)
                found[(*before, "+", *last)] = ("join", (*front, term))
    return found


class TestAllShortExpressions(unittest.TestCase):
    def test_what_is_accepted_is_what_the_grammar_gives(self):
        valid = valid_expressions(7)
        self.assertEqual(valid[("list", "(", "x", ",", "x", ")")], call("list", X, X))
        self.assertEqual(valid[("x", "+", "x", "+", '"a"')], ("join", (X, X, text("a"))))
        for tokens, expression in valid.items():
            self.assertEqual(parse(" ".join(tokens)), (expression, len(tokens)))

    def test_all_short_lines(self):
        valid = valid_expressions(6)
        accepted = 0
        for size in range(6):
            for tokens in itertools.product(("x", '"a"', "has", "list", "(", ")", ",", "+"), repeat=size):
                ends = [end for end in range(1, size + 1) if self.may_end(tokens, end) and tokens[:end] in valid]
                try:
                    found = parse(" ".join(tokens))
                except BadToken:
                    found = None
                expected = (valid[tokens[:ends[0]]], ends[0]) if ends else None
                self.assertEqual(found, expected, tokens)
                accepted += len(ends)
        self.assertGreater(accepted, 1000)

    def may_end(self, tokens, end):
        """True if the token at the index does not belong to an expression that could end in front of it."""
        if end == len(tokens):
            return True
        return tokens[end] != "+" and not (tokens[end] == "(" and tokens[end - 1] in ("x", "has", "list"))


class TestBadToken(unittest.TestCase):
    def test_its_attributes(self):
        error = BadToken(7, "too deep")
        self.assertIsInstance(error, BuildError)
        self.assertEqual((error.column, error.reason), (7, "too deep"))
        self.assertIsInstance(str(error), str)
        error = BadToken(column=0, reason="missing token")
        self.assertEqual((error.column, error.reason), (0, "missing token"))
        self.assertEqual(BadToken.__module__, "kilnyard.expressions")


if __name__ == "__main__":
    unittest.main()
