"""Points 46 and 47: the written forms of strings, expressions and rules, and reading them again."""

import random
import unittest

from kilnyard.expressions import parse_expression
from kilnyard.keys import is_content
from kilnyard.printing import format_expression, format_rule, format_string
from kilnyard.recipes import Rule, parse_book
from kilnyard.scanning import scan_line
from kilnyard.trees import Tree

A = ("text", "a")
STEM = ("name", "stem")
FAIL = ("fail",)
COUNTS = (("read", 1), ("list", 2), ("same", 2), ("not", 1), ("join", 2), ("swap", 3))
# Everything that the form of a rule has at once.
LONG_TEXT = r'''sealed out/*.o *.log : src/*.c src/*.h lib
  let x "a\nb\"c\\d" + stem
  each line in list("src", "*.c") + x
    if same(line, "")
      let x upper(x + line)
    else
      if not(has(line))
        fail
      else
        each y in rest(x)
          put 2 swap(y, "\"", "\\")
        end
      end
    end
  end
  if x
  end
  put 1 x
end'''


def read_rule(text):
    """The rule that the text is as the only rule of a book."""
    tree = Tree()
    tree.write("rules", text, "person")
    (rule,) = parse_book(tree).rules
    return rule


def rule_of(*body):
    return Rule(("a",), (), False, body)


class TestStrings(unittest.TestCase):
    def test_characters_that_are_written_as_they_are(self):
        for text in ("", "a", "a b", "#(),+", "'", " ", "n", "x" * 400):
            self.assertEqual(format_string(text), '"' + text + '"')

    def test_each_escape(self):
        self.assertEqual(format_string("\n"), r'"\n"')
        self.assertEqual(format_string('"'), r'"\""')
        self.assertEqual(format_string("\\"), r'"\\"')
        self.assertEqual(format_string("\n\n"), r'"\n\n"')
        self.assertEqual(format_string('a\nb"c\\d'), r'"a\nb\"c\\d"')

    def test_escapes_side_by_side(self):
        self.assertEqual(format_string("\\n"), r'"\\n"')
        self.assertEqual(format_string("\\\n"), r'"\\\n"')
        self.assertEqual(format_string('\\"'), r'"\\\""')
        self.assertEqual(format_string('"\\\\'), r'"\"\\\\"')

    def test_reading_the_written_form(self):
        texts = ["", "a", '"', "\\", "\n", "\\n", "\\\\n", '\\"', '"\\', "\n\\", "a\\\nb", " # ", "\\" * 9 + '"']
        texts.append("".join([chr(code) for code in range(32, 127) if code != 37]) + "\n")
        for text in texts:
            self.assertEqual(scan_line("rules", 1, format_string(text)), [("string", text, 1)])


class TestExpressions(unittest.TestCase):
    def check(self, expression, text):
        with self.subTest(text=text):
            self.assertEqual(format_expression(expression), text)
            tokens = scan_line("rules", 1, text)
            self.assertEqual(parse_expression(tokens, 0, ["stem", "x"]), (expression, len(tokens)))

    def test_each_form(self):
        self.check(A, '"a"')
        self.check(("text", 'a"\n\\'), r'"a\"\n\\"')
        self.check(STEM, "stem")
        self.check(("call", "has", (A,)), 'has("a")')
        self.check(("call", "list", (A, STEM)), 'list("a", stem)')
        self.check(("call", "swap", (A, STEM, A)), 'swap("a", stem, "a")')
        self.check(("join", (A, STEM)), '"a" + stem')
        self.check(("join", (A, STEM, A)), '"a" + stem + "a"')

    def test_expressions_inside_of_others(self):
        self.check(("call", "has", (("join", (A, STEM)),)), 'has("a" + stem)')
        self.check(("call", "list", (("join", (A, STEM)), ("join", (STEM, STEM)))), 'list("a" + stem, stem + stem)')
        self.check(("join", (("call", "not", (A,)), ("call", "same", (A, STEM)))), 'not("a") + same("a", stem)')
        inner = ("call", "upper", (("join", (("call", "first", (STEM,)), ("name", "x"))),))
        self.check(("call", "join", (inner, A)), 'join(upper(first(stem) + x), "a")')


class TestRules(unittest.TestCase):
    def check(self, rule, *lines):
        self.assertEqual(format_rule(rule), "\n".join(lines))
        self.assertEqual(read_rule(format_rule(rule)), rule)

    def test_example_of_the_interface(self):
        test = ("call", "has", (("text", "c"),))
        rule = Rule(("a",), ("b",), False, (("if", test, (("put", 1, ("name", "stem")),), ()),))
        self.assertEqual(format_rule(rule), 'rule a : b\n  if has("c")\n    put 1 stem\n  end\nend')
        self.assertEqual(read_rule(format_rule(rule)), rule)

    def test_first_lines(self):
        self.check(Rule(("a",), (), False, ()), "rule a :", "end")
        self.check(Rule(("a",), (), True, ()), "sealed a :", "end")
        self.check(Rule(("a", "b/c", "d.e"), ("x",), False, ()), "rule a b/c d.e : x", "end")
        self.check(Rule(("*.a", "b/*"), ("*.c", "x", "x"), True, ()), "sealed *.a b/* : *.c x x", "end")
        self.check(Rule(("a",), ("x", "y", "z", "u", "v", "w"), False, ()), "rule a : x y z u v w", "end")

    def test_each_statement(self):
        self.check(rule_of(("let", "x", A)), "rule a :", '  let x "a"', "end")
        self.check(rule_of(("put", 1, STEM)), "rule a :", "  put 1 stem", "end")
        self.check(Rule(("a", "b", "c"), (), False, (("put", 3, A), ("put", 2, A))),
                   "rule a b c :", '  put 3 "a"', '  put 2 "a"', "end")
        self.check(rule_of(FAIL, FAIL), "rule a :", "  fail", "  fail", "end")
        self.check(rule_of(("if", STEM, (), ())), "rule a :", "  if stem", "  end", "end")
        self.check(rule_of(("each", "x", STEM, ())), "rule a :", "  each x in stem", "  end", "end")

    def test_expressions_of_statements(self):
        joined = ("join", (A, STEM))
        call = ("call", "list", (joined, ("text", "\n")))
        self.check(rule_of(("let", "x", joined), ("put", 1, call), ("if", joined, (), ()), ("each", "y", call, ())),
                   "rule a :", '  let x "a" + stem', r'  put 1 list("a" + stem, "\n")', '  if "a" + stem', "  end",
                   r'  each y in list("a" + stem, "\n")', "  end", "end")

    def test_blocks_with_and_without_an_else(self):
        self.check(rule_of(("if", STEM, (FAIL,), ())), "rule a :", "  if stem", "    fail", "  end", "end")
        self.check(rule_of(("if", STEM, (FAIL,), (FAIL, FAIL))),
                   "rule a :", "  if stem", "    fail", "  else", "    fail", "    fail", "  end", "end")
        self.check(rule_of(("if", STEM, (), (FAIL,))), "rule a :", "  if stem", "  else", "    fail", "  end", "end")
        self.check(rule_of(("each", "x", STEM, (FAIL, ("put", 1, ("name", "x"))))),
                   "rule a :", "  each x in stem", "    fail", "    put 1 x", "  end", "end")

    def test_nested_blocks(self):
        inner = ("each", "x", STEM, (("if", ("name", "x"), (FAIL,), (FAIL,)),))
        self.check(rule_of(("if", STEM, (inner,), (("if", STEM, (), ()), inner)), FAIL),
                   "rule a :", "  if stem", "    each x in stem", "      if x", "        fail", "      else",
                   "        fail", "      end", "    end", "  else", "    if stem", "    end", "    each x in stem",
                   "      if x", "        fail", "      else", "        fail", "      end", "    end", "  end",
                   "  fail", "end")

    def test_a_long_rule(self):
        self.assertTrue(is_content(LONG_TEXT))
        self.assertEqual(format_rule(read_rule(LONG_TEXT)), LONG_TEXT)

    def test_spaces_comments_and_an_empty_else_are_not_written(self):
        text = '\n rule  a   b :  c \n# x\nif  stem\nelse\n\nend\n put 2 list( "a" ,stem )+"b" \n end\n'
        self.assertEqual(format_rule(read_rule(text)),
                         'rule a b : c\n  if stem\n  end\n  put 2 list("a", stem) + "b"\nend')

    def test_what_is_written_is_a_text_without_spaces_at_the_ends_of_lines(self):
        for rule in (Rule(("a",), (), False, ()), read_rule(LONG_TEXT)):
            lines = format_rule(rule).split("\n")
            self.assertEqual([line.rstrip() for line in lines], lines)
            self.assertEqual(lines[-1], "end")

    def test_the_rule_is_not_modified(self):
        rule = read_rule(LONG_TEXT)
        format_rule(rule)
        self.assertEqual(rule, read_rule(LONG_TEXT))


class Maker:
    """Makes rules that could have been read, the same ones in each run of the tests."""

    def __init__(self, seed):
        self.random = random.Random(seed)

    def text(self):
        return "".join([self.random.choice('ab \n"\\#(),+') for _ in range(self.random.randrange(5))])

    def expression(self, known, depth):
        if self.random.random() < 0.2:
            terms = [self.term(known, depth) for _ in range(self.random.randrange(2, 4))]
            return ("join", tuple(terms))
        return self.term(known, depth)

    def term(self, known, depth):
        choice = self.random.randrange(4)
        if choice == 0 and depth < 6:
            function, count = self.random.choice(COUNTS)
            return ("call", function, tuple([self.expression(known, depth + 1) for _ in range(count)]))
        return ("name", self.random.choice(known)) if choice == 1 else ("text", self.text())

    def body(self, known, depth, outputs):
        names = list(known)
        statements = []
        for _ in range(self.random.randrange(4)):
            statements.append(self.statement(names, depth, outputs))
            if statements[-1][0] == "let":
                names.append(statements[-1][1])
        return tuple(statements)

    def statement(self, known, depth, outputs):
        word = self.random.choice(("let", "put", "fail", "if", "each") if depth < 4 else ("let", "put", "fail"))
        name = self.random.choice(("x", "y_1", "let", "end"))
        if word == "let":
            return (word, name, self.expression(known, 0))
        if word == "put":
            return (word, self.random.randrange(1, outputs + 1), self.expression(known, 0))
        if word == "if":
            return (word, self.expression(known, 0), self.body(known, depth + 1, outputs),
                    self.body(known, depth + 1, outputs))
        if word == "each":
            return (word, name, self.expression(known, 0), self.body(known + [name], depth + 1, outputs))
        return (word,)

    def rule(self):
        sealed = self.random.choice((True, False))
        outputs, inputs = self.random.choice(((("a",), ()), (("a", "b/c"), ("d",)), (("*.o", "x/*", "*"), ("*.c", "e"))))
        return Rule(outputs, inputs, sealed, self.body(["stem"], 0, len(outputs)))


class TestReadingAgain(unittest.TestCase):
    def test_many_rules(self):
        maker = Maker(46)
        count = 0
        for _ in range(2000):
            rule = maker.rule()
            text = format_rule(rule)
            if is_content(text):
                count += 1
                found = read_rule(text)
                self.assertEqual(found, rule, text)
                self.assertEqual(format_rule(found), text)
        self.assertGreater(count, 1000)


if __name__ == "__main__":
    unittest.main()
