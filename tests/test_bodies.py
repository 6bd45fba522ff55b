"""Points 39 to 45: the bodies of rules, the names that are known there, and the form of statements."""

import unittest

from kilnyard.errors import BuildError, InvalidRecipe
from kilnyard.recipes import parse_book
from kilnyard.trees import Tree

A = ("text", "a")
STEM = ("name", "stem")
X = ("name", "x")


def parse(body, head="rule a b :"):
    """The body of a rule with these lines."""
    tree = Tree()
    tree.write("rules", head + "\n" + body + "\nend", "person")
    (rule,) = parse_book(tree).rules
    return rule.body


def opened(count, word="if stem"):
    """So many blocks inside of one another, not closed."""
    return (word + "\n") * count


class BodyCase(unittest.TestCase):
    def check(self, body, *statements):
        with self.subTest(body=body):
            self.assertEqual(parse(body), statements)

    def check_error(self, marked, reason, head="rule a b :"):
        """A rule with these lines, without the @, raises this error at the place of the @."""
        front, behind = (head + "\n" + marked).split("@")
        tree = Tree()
        tree.write("rules", front + behind, "person")
        with self.subTest(body=marked):
            with self.assertRaises(BuildError) as caught:
                parse_book(tree)
            error = caught.exception
            self.assertIs(error.__class__, InvalidRecipe)
            rows = front.split("\n")
            self.assertEqual((error.path, error.line, error.column, error.reason),
                             ("rules", len(rows), len(rows[-1]) + 1, reason))


class TestForms(BodyCase):
    def test_an_empty_body(self):
        self.check("")

    def test_each_statement(self):
        self.check('let x "a"', ("let", "x", A))
        self.check('put 1 "a"', ("put", 1, A))
        self.check("if stem\nend", ("if", STEM, (), ()))
        self.check("each x in stem\nend", ("each", "x", STEM, ()))
        self.check("fail", ("fail",))

    def test_the_number_is_an_integer(self):
        self.assertIs(type(parse('put 2 "a"')[0][1]), int)

    def test_blocks(self):
        self.check('if stem\nfail\nput 1 "a"\nend', ("if", STEM, (("fail",), ("put", 1, A)), ()))
        self.check("if stem\nfail\nelse\nput 1 stem\nend", ("if", STEM, (("fail",),), (("put", 1, STEM),)))
        self.check("if stem\nelse\nfail\nend", ("if", STEM, (), (("fail",),)))
        self.check("if stem\nfail\nelse\nend", ("if", STEM, (("fail",),), ()))
        self.check("each x in stem\nput 1 x\nfail\nend", ("each", "x", STEM, (("put", 1, X), ("fail",))))

    def test_blocks_inside_of_blocks(self):
        self.check("if stem\neach x in stem\nif x\nfail\nend\nend\nelse\nif stem\nelse\nfail\nend\nend\nfail",
                   ("if", STEM, (("each", "x", STEM, (("if", X, (("fail",),), ()),)),),
                    (("if", STEM, (), (("fail",),)),)), ("fail",))

    def test_statements_in_their_order(self):
        self.check('let x "a"\nput 2 x\nfail\nlet x stem\nput 1 x', ("let", "x", A), ("put", 2, X), ("fail",),
                   ("let", "x", STEM), ("put", 1, X))

    def test_expressions(self):
        self.check('put 1 list("a", stem) + "a"',
                   ("put", 1, ("join", (("call", "list", (A, STEM)), A))))
        self.check('let x "a" + stem + "a"', ("let", "x", ("join", (A, STEM, A))))
        self.check('if has("a")\nend', ("if", ("call", "has", (A,)), (), ()))
        self.check('each x in rest("a")\nend', ("each", "x", ("call", "rest", (A,)), ()))

    def test_bodies_statements_and_arguments_are_tuples(self):
        body = parse('if has("a")\nfail\nelse\neach x in stem\nfail\nend\nend\nlet y list(stem, stem) + stem')
        waiting = [body]
        while waiting:
            value = waiting.pop()
            self.assertIn(type(value), (tuple, str, int))
            if isinstance(value, tuple):
                waiting.extend(value)

    def test_spaces_comments_and_empty_lines(self):
        self.check('  let  x   "a"\n\n   # fail\n#\n     put 2 x  \n fail', ("let", "x", A), ("put", 2, X), ("fail",))


class TestUnknownLines(BodyCase):
    def test_other_words(self):
        for word in ("set", "use", "rule", "sealed", "Let", "in", "a", "1", ":", "ends", "elseif"):
            self.check_error("@" + word, "unknown line")
            self.check_error("fail\n  @" + word + ' x "a"', "unknown line")
            self.check_error("if stem\n@" + word, "unknown line")

    def test_strings_and_signs(self):
        for token in ('"let"', '"end"', '"else"', '"fail"', "(", ")", ",", "+"):
            self.check_error("@" + token + ' x "a"', "unknown line")
            self.check_error("if stem\n @" + token, "unknown line")

    def test_errors_in_the_tokens_come_first(self):
        self.check_error('set @"', "unterminated string")
        self.check_error('let A @"', "unterminated string")
        self.check_error('put 9 "@\\a"', "invalid escape")
        self.check_error('end @"', "unterminated string")
        self.check_error('else @"', "unterminated string")


class TestLet(BodyCase):
    def test_any_identifier_but_stem_is_a_name(self):
        for name in ("x", "let", "in", "read", "a" * 12, "a_1", "end"):
            self.check("let " + name + ' "a"', ("let", name, A))

    def test_invalid_names(self):
        for token in ("stem", "A", "1", "a.b", "_a", "a" * 13, '"x"', "(", "+"):
            self.check_error("let @" + token + ' "a"', "invalid name")
            self.check_error("let @" + token, "invalid name")

    def test_missing_tokens(self):
        self.check_error("let@", "missing token")
        self.check_error("  let@  ", "missing token")
        self.check_error("let x@", "missing token")
        self.check_error('let x "a" +@  ', "missing token")
        self.check_error("let x has(@ ", "missing token")

    def test_extra_tokens(self):
        for token in ("stem", '"a"', "(", ")", ",", "1"):
            self.check_error('let x "a" @' + token, "extra token")
            self.check_error('let x has("a") @' + token + " y", "extra token")

    def test_errors_of_the_expression(self):
        self.check_error("let x @)", "unexpected token")
        self.check_error("let x @A", "invalid name")
        self.check_error("let x stem + @y )", "unknown name")
        self.check_error("let x @y(", "unknown function")
        self.check_error("let x has(@)", "missing argument")
        self.check_error("let x has(stem@, stem)", "extra argument")
        self.check_error("let x " + "not(" * 6 + "@not(", "too deep")


class TestPut(BodyCase):
    def test_each_number(self):
        for outputs, count in (("a", 1), ("a b", 2), ("a b c", 3), ("*", 1), ("* *.a *.b", 3)):
            for number in (1, 2, 3):
                line = "put " + str(number) + " stem"
                if number <= count:
                    self.assertEqual(parse(line, "rule " + outputs + " : x"), (("put", number, STEM),))
                else:
                    self.check_error(line.replace("put ", "put @"), "invalid number", "rule " + outputs + " : x y z")

    def test_invalid_numbers(self):
        for token in ("0", "4", "01", "1.", "-1", "x", "stem", '"1"', "(", "+", "11", "12", "123"):
            self.check_error("put @" + token + " stem", "invalid number", "rule a b c :")
            self.check_error("put @" + token, "invalid number", "rule a b c :")

    def test_missing_tokens(self):
        self.check_error("put@", "missing token")
        self.check_error("put 1@", "missing token")
        self.check_error("  put 2 stem +@   ", "missing token")

    def test_extra_tokens(self):
        for token in ("stem", '"a"', "(", ")", ",", "1"):
            self.check_error('put 1 "a" @' + token, "extra token")
            self.check_error('put 1 "a" @' + token + " b", "extra token")

    def test_errors_of_the_expression(self):
        self.check_error("put 1 @+", "unexpected token")
        self.check_error("put 1 @1", "invalid name")
        self.check_error("put 1 @x", "unknown name")


class TestIf(BodyCase):
    def test_missing_and_extra_tokens(self):
        self.check_error("if@", "missing token")
        self.check_error("if stem +@", "missing token")
        self.check_error("if stem @stem", "extra token")
        self.check_error('if "a" @(', "extra token")

    def test_errors_of_the_expression(self):
        self.check_error("if @A", "invalid name")
        self.check_error("if @x", "unknown name")
        self.check_error("if @(", "unexpected token")

    def test_an_else_with_something_behind_it(self):
        for token in ("stem", '"a"', "if stem", "(", "else"):
            self.check_error("if stem\nelse @" + token, "extra token")

    def test_an_else_where_none_is_allowed(self):
        for behind in ("", " stem", ' "a" (', " else"):
            self.check_error("@else" + behind, "unknown line")
            self.check_error("each x in stem\n @else" + behind, "unknown line")
            self.check_error("if stem\nelse\n@else" + behind, "unknown line")
            self.check_error("if stem\nend\n@else" + behind, "unknown line")
            self.check_error("if stem\neach x in stem\n@else" + behind, "unknown line")
            self.check_error("if stem\nelse\nif stem\nend\n@else" + behind, "unknown line")
            self.check_error("if stem\nelse\nif stem\nelse\nend\n@else" + behind, "unknown line")

    def test_an_else_behind_an_inner_block(self):
        self.check("if stem\nif stem\nelse\nend\nelse\nfail\nend", ("if", STEM, (("if", STEM, (), ()),), (("fail",),)))
        self.check("if stem\neach x in stem\nend\nelse\nfail\nend",
                   ("if", STEM, (("each", "x", STEM, ()),), (("fail",),)))


class TestEach(BodyCase):
    def test_invalid_names(self):
        for token in ("stem", "A", "1", "a.b", '"x"', "(", "a" * 13):
            self.check_error("each @" + token + " in stem", "invalid name")
            self.check_error("each @" + token, "invalid name")

    def test_in_expected(self):
        for token in ("stem", "on", "IN", '"in"', "(", "+", "="):
            self.check_error("each x @" + token + " stem", "in expected")
            self.check_error("each x @" + token, "in expected")

    def test_the_variable_may_be_called_in(self):
        self.check("each in in stem\nput 1 in\nend", ("each", "in", STEM, (("put", 1, ("name", "in")),)))

    def test_missing_and_extra_tokens(self):
        self.check_error("each@", "missing token")
        self.check_error("each x@", "missing token")
        self.check_error("each x in@  ", "missing token")
        self.check_error("each x in stem +@", "missing token")
        self.check_error("each x in stem @stem", "extra token")

    def test_errors_of_the_expression(self):
        self.check_error("each x in @)", "unexpected token")
        self.check_error("each x in @y", "unknown name")
        self.check_error("each x in @1", "invalid name")


class TestFailAndEnd(BodyCase):
    def test_a_fail_with_something_behind_it(self):
        for token in ("stem", '"a"', "(", "fail"):
            self.check_error("fail @" + token, "extra token")
            self.check_error("  fail   @" + token + " a", "extra token")

    def test_an_end_with_something_behind_it(self):
        for token in ("stem", '"a"', "(", "end", "#"):
            self.check_error("end @" + token, "extra token")
            self.check_error("if stem\nend @" + token, "extra token")
            self.check_error("each x in stem\nend @" + token + " a", "extra token")
            self.check_error("if stem\nelse\nend @" + token + " a", "extra token")

    def test_an_end_closes_the_innermost_block(self):
        self.check_error("if stem\neach x in stem\nend\nend\nend\n@end", "unknown line")
        self.check_error("end\n@fail", "unknown line")


class TestKnownNames(BodyCase):
    def test_stem_is_known_everywhere(self):
        self.check("put 1 stem\nif stem\nput 1 stem\nelse\nput 1 stem\nend\neach x in stem\nput 1 stem\nend",
                   ("put", 1, STEM), ("if", STEM, (("put", 1, STEM),), (("put", 1, STEM),)),
                   ("each", "x", STEM, (("put", 1, STEM),)))

    def test_a_name_is_known_from_the_next_line_on(self):
        self.check('let x "a"\nput 1 x', ("let", "x", A), ("put", 1, X))
        self.check_error("let x @x", "unknown name")
        self.check_error('put 1 @x\nlet x "a"', "unknown name")
        self.check('let x "a"\nlet x x', ("let", "x", A), ("let", "x", X))
        self.check('let x "a"\nlet y x\nput 1 y', ("let", "x", A), ("let", "y", X), ("put", 1, ("name", "y")))

    def test_a_name_of_a_block_is_not_known_behind_it(self):
        for begin in ("if stem\n", "each y in stem\n", "if stem\nelse\n", "if stem\nif stem\nend\n"):
            self.check_error(begin + 'let x "a"\nput 1 x\nend\nput 1 @x', "unknown name")
            self.check_error(begin + 'let x "a"\nend\nlet x @x', "unknown name")

    def test_a_name_before_an_else_is_not_known_behind_it(self):
        self.check_error('if stem\nlet x "a"\nelse\nput 1 @x', "unknown name")
        self.check_error('if stem\nlet x "a"\nelse\nlet y stem\nend\nput 1 @y', "unknown name")

    def test_a_name_is_known_in_the_blocks_that_follow(self):
        self.check('let x "a"\nif x\nput 1 x\nelse\nput 1 x\nend\neach y in x\nif x\nput 1 x\nend\nend\nput 2 x',
                   ("let", "x", A), ("if", X, (("put", 1, X),), (("put", 1, X),)),
                   ("each", "y", X, (("if", X, (("put", 1, X),), ()),)), ("put", 2, X))

    def test_a_name_of_an_inner_block_is_known_in_its_inner_blocks_only(self):
        self.check('if stem\nlet x "a"\nif x\nput 1 x\nend\nput 1 x\nend',
                   ("if", STEM, (("let", "x", A), ("if", X, (("put", 1, X),), ()), ("put", 1, X)), ()))
        self.check_error('if stem\nif stem\nlet x "a"\nend\nput 1 @x', "unknown name")

    def test_the_name_of_an_each(self):
        self.check("each x in stem\nput 1 x\nend", ("each", "x", STEM, (("put", 1, X),)))
        self.check_error("each x in @x\nend", "unknown name")
        self.check_error("each x in stem\nend\nput 1 @x", "unknown name")
        self.check_error("each x in stem\neach y in x\nend\nput 1 @y", "unknown name")
        self.check("each x in stem\neach y in x\nput 1 y + x\nend\nend",
                   ("each", "x", STEM, (("each", "y", X, (("put", 1, ("join", (("name", "y"), X))),)),)))

    def test_a_name_that_is_known_already_stays_known(self):
        self.check('let x "a"\nif stem\nlet x stem\nend\nput 1 x', ("let", "x", A),
                   ("if", STEM, (("let", "x", STEM),), ()), ("put", 1, X))
        self.check('let x "a"\neach x in x\nput 1 x\nend\nput 2 x', ("let", "x", A),
                   ("each", "x", X, (("put", 1, X),)), ("put", 2, X))
        self.check('let x "a"\nif x\nlet x x\nelse\nput 1 x\nend', ("let", "x", A),
                   ("if", X, (("let", "x", X),), (("put", 1, X),)))

    def test_a_name_of_another_rule_is_not_known(self):
        self.check_error('let x "a"\nend\nrule c :\nput 1 @x', "unknown name")

    def test_settings_functions_and_words_are_not_known(self):
        for word in ("read", "in", "put", "a"):
            self.check_error("put 1 @" + word, "unknown name")


class TestLimits(BodyCase):
    def test_forty_statements(self):
        self.assertEqual(parse("fail\n" * 40), (("fail",),) * 40)

    def test_the_forty_first_statement(self):
        for line in ("@fail", "@let", "@let x", "@put 9", "@if", "@if x y", "@each", "@each x in stem", "  @fail x"):
            self.check_error("fail\n" * 40 + line, "too many statements")

    def test_each_kind_of_statement_counts(self):
        for statement, count in (('let x ""', 1), ("put 1 stem", 1), ("if stem\nend", 1), ("each x in stem\nend", 1),
                                 ("if stem\nfail\nend", 2), ("if stem\nelse\nfail\nend", 2),
                                 ("each x in stem\nfail\nend", 2)):
            for before in (40 - count, 41 - count):
                lines = "fail\n" * before + statement
                if before + count <= 40:
                    self.assertEqual(len(parse(lines)), before + 1)
                else:
                    with self.assertRaises(InvalidRecipe) as caught:
                        parse(lines)
                    self.assertEqual((caught.exception.reason, caught.exception.column), ("too many statements", 1))

    def test_other_lines_do_not_count(self):
        self.assertEqual(len(parse("if stem\nelse\nend\n" + "fail\n" * 39 + "# x\n\n")), 40)
        self.check_error("if stem\n" + "fail\n" * 39 + "else\n@fail", "too many statements")
        self.check_error("fail\n" * 40 + "@x", "unknown line")
        self.check_error("fail\n" * 40 + "@else", "unknown line")
        self.check_error("fail\n" * 40 + "end @x", "extra token")

    def test_each_rule_has_its_own_statements(self):
        self.check_error("fail\n" * 30 + "end\nrule c :\n" + "fail\n" * 40 + "@fail", "too many statements")

    def test_four_open_blocks(self):
        body = parse(opened(4) + "fail\n" + "end\n" * 4)
        expected = ("fail",)
        for _ in range(4):
            expected = ("if", STEM, (expected,), ())
        self.assertEqual(body, (expected,))
        self.assertEqual(len(parse(opened(4, "each x in stem") + "end\n" * 4)), 1)

    def test_the_fifth_open_block(self):
        for word in ("if stem", "each x in stem"):
            for line in ("@if stem", "@if", "@if x y", "@each x in stem", "@each", "@each A"):
                self.check_error(opened(4, word) + line, "too deep")

    def test_an_if_and_its_else_count_once(self):
        self.assertEqual(len(parse(opened(3) + "else\nif stem\nelse\nfail\n" + "end\n" * 4)), 1)
        self.check_error(opened(4) + "else\n@if stem", "too deep")
        self.check_error(opened(3) + "else\nif stem\nelse\n  @each x in stem", "too deep")

    def test_closed_blocks_do_not_count(self):
        self.assertEqual(len(parse(opened(4) + "end\nif stem\nend\nend\nif stem\nif stem\n" + "end\n" * 4)), 1)
        self.check_error(opened(4) + "end\nif stem\n@if stem", "too deep")

    def test_other_statements_inside_of_four_blocks(self):
        self.assertEqual(len(parse(opened(4) + 'let x ""\nput 1 x\nfail\n' + "end\n" * 4)), 1)

    def test_too_many_statements_come_before_too_deep(self):
        self.check_error("fail\n" * 36 + opened(4) + "@if stem", "too many statements")
        self.check_error("fail\n" * 35 + opened(4) + "@if stem", "too deep")

    def test_both_come_behind_the_errors_in_the_tokens(self):
        self.check_error("fail\n" * 40 + 'if @"', "unterminated string")
        self.check_error(opened(4) + 'if "@\\a', "invalid escape")


if __name__ == "__main__":
    unittest.main()
