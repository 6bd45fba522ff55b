"""Points 30, 31 and 33 to 39: recipe files, lines outside of rules, books and rules."""

import unittest

from kilnyard.errors import BuildError, InvalidRecipe
from kilnyard.recipes import Book, Rule, parse_book
from kilnyard.trees import Tree

PUT = (("put", 1, ("text", "")),)


def tree_of(files):
    """A tree with these files of a person; a string alone is the first recipe file."""
    tree = Tree()
    for path, text in ({"rules": files} if isinstance(files, str) else files).items():
        tree.write(path, text, "person")
    return tree


def parse(files):
    return parse_book(tree_of(files))


def place_of(files):
    """The files without their @, and the path, the line and the column of the @."""
    files = {"rules": files} if isinstance(files, str) else dict(files)
    (path,) = [path for path, text in files.items() if "@" in text]
    front, behind = files[path].split("@")
    files[path] = front + behind
    lines = front.split("\n")
    return files, path, len(lines), len(lines[-1]) + 1


def rules(first, count):
    """The recipes of so many rules with one output each."""
    return "".join(["rule r" + str(at) + " :\nend\n" for at in range(first, first + count)])


def uses(names):
    return "".join(["use " + name + "\n" for name in names])


class RecipeCase(unittest.TestCase):
    def check_error(self, files, reason):
        """The files without their @ raise this error at the place of the @."""
        files, path, line, column = place_of(files)
        self.check_error_of(tree_of(files), (path, line, column, reason))

    def check_error_of(self, tree, expected):
        before = dict(tree.entries)
        with self.subTest(files=before):
            with self.assertRaises(BuildError) as caught:
                parse_book(tree)
            error = caught.exception
            self.assertIs(error.__class__, InvalidRecipe)
            self.assertEqual((error.path, error.line, error.column, error.reason), expected)
            self.assertEqual(tree.entries, before)

    def check_book(self, files, settings, heads, names):
        """The files give these settings, rules with these outputs, and names of files, all in this order."""
        book = parse(files)
        self.assertEqual(list(book.settings.items()), settings)
        self.assertEqual([rule.outputs for rule in book.rules], heads)
        self.assertEqual(book.files, names)


class TestBook(RecipeCase):
    def test_an_empty_book(self):
        book = Book()
        self.assertEqual((book.settings, book.rules, book.files), ({}, [], []))

    def test_two_empty_books_have_nothing_in_common(self):
        first, second = Book(), Book()
        first.settings["a"] = "x"
        first.rules.append(Rule(("a",), (), False, ()))
        first.files.append("rules")
        self.assertEqual((second.settings, second.rules, second.files), ({}, [], []))
        self.assertEqual((len(first.settings), len(first.rules), len(first.files)), (1, 1, 1))

    def test_what_a_caller_puts_into_a_book_stays_there(self):
        book = parse('set a "1"\nrule b :\nend')
        book.settings["c"] = "2"
        book.rules.append(Rule(("d",), (), False, ()))
        book.files.append("e")
        self.assertEqual(book.settings, {"a": "1", "c": "2"})
        self.assertEqual([rule.outputs for rule in book.rules], [("b",), ("d",)])
        self.assertEqual(book.files, ["rules", "e"])

    def test_reading_changes_nothing_in_the_tree(self):
        tree = tree_of({"rules": 'set a "x"\nuse b\n', "c": "rule d :\nend"})
        tree.link("b", "c")
        tree.write("d", "made", "build")
        before = dict(tree.entries)
        parse_book(tree)
        self.assertEqual(tree.entries, before)

    def test_two_calls_give_books_that_have_nothing_in_common(self):
        tree = tree_of('set a "x"\nrule b :\nend')
        first, second = parse_book(tree), parse_book(tree)
        self.assertIsNot(first, second)
        self.assertIsInstance(first, Book)
        first.settings["c"] = "y"
        first.rules.clear()
        first.files.append("d")
        self.assertEqual((second.settings, len(second.rules), second.files), ({"a": "x"}, 1, ["rules"]))


class TestRule(unittest.TestCase):
    def test_attributes(self):
        rule = Rule(("a", "b"), ("c",), True, PUT)
        self.assertEqual((rule.outputs, rule.inputs, rule.sealed, rule.body), (("a", "b"), ("c",), True, PUT))

    def test_equal_rules(self):
        self.assertTrue(Rule(("a",), ("c",), True, PUT) == Rule(("a",), ("c",), True, PUT))
        self.assertFalse(Rule(("a",), ("c",), True, PUT) != Rule(("a",), ("c",), True, PUT))
        self.assertTrue(Rule(("a",), (), False, ()) == Rule(("a",), (), False, ()))

    def test_each_attribute_changed(self):
        rule = Rule(("a", "b"), ("c",), True, PUT)
        others = [Rule(("a",), ("c",), True, PUT), Rule(("b", "a"), ("c",), True, PUT),
                  Rule(("a", "b"), (), True, PUT), Rule(("a", "b"), ("c", "c"), True, PUT),
                  Rule(("a", "b"), ("c",), False, PUT), Rule(("a", "b"), ("c",), True, ()),
                  Rule(("a", "b"), ("c",), True, (("put", 2, ("text", "")),)),
                  Rule(("a", "b"), ("c",), True, (("put", 1, ("text", "x")),))]
        for other in others:
            self.assertFalse(rule == other)
            self.assertFalse(other == rule)
            self.assertTrue(rule != other)

    def test_a_rule_is_not_equal_to_anything_else(self):
        for other in (None, 1, "rule", (("a",), (), False, ()), Book()):
            self.assertFalse(Rule(("a",), (), False, ()) == other)

    def test_is_pattern(self):
        self.assertIs(Rule(("a",), (), False, ()).is_pattern(), False)
        self.assertIs(Rule(("a/b", "c"), ("d",), True, ()).is_pattern(), False)
        self.assertIs(Rule(("*",), (), False, ()).is_pattern(), True)
        self.assertIs(Rule(("a/*.o", "b*"), ("c",), True, ()).is_pattern(), True)

    def test_rules_that_were_read(self):
        plain, pattern, sealed = parse("rule a b : c\nend\nrule *.o : *.c h\nfail\nend\nsealed d :\nend").rules
        self.assertEqual(plain, Rule(("a", "b"), ("c",), False, ()))
        self.assertEqual(pattern, Rule(("*.o",), ("*.c", "h"), False, (("fail",),)))
        self.assertEqual(sealed, Rule(("d",), (), True, ()))
        self.assertEqual([rule.is_pattern() for rule in (plain, pattern, sealed)], [False, True, False])
        for rule in (plain, pattern, sealed):
            self.assertIsInstance(rule, Rule)
            self.assertEqual([type(part) for part in (rule.outputs, rule.inputs, rule.sealed, rule.body)],
                             [tuple, tuple, bool, tuple])


class TestSkippedLines(RecipeCase):
    def test_a_recipe_file_without_any_line(self):
        for text in ("", "\n", "\n\n\n", "   ", " \n# set\n  # x\n", "#"):
            self.check_book(text, [], [], ["rules"])

    def test_skipped_lines_wherever_they_stand(self):
        text = '\n# a\nset a "x"\n\n   \n  #"\nrule b :\n\n # else\n  put 1 ""\n\n  # end\nend\n#\n\n'
        self.check_book(text, [("a", "x")], [("b",)], ["rules"])
        self.assertEqual(parse(text).rules, [Rule(("b",), (), False, PUT)])

    def test_skipped_lines_count(self):
        self.check_error("\n\n# a\n   @b", "unknown line")
        self.check_error('set a "x"\n\n @b\n', "unknown line")

    def test_a_comment_sign_inside_of_a_line_is_a_word(self):
        self.check_error('set a "x" @# b', "extra token")
        self.check_error("use @#", "invalid path")


class TestUnknownLines(RecipeCase):
    def test_other_words(self):
        for word in ("let", "put", "if", "else", "each", "fail", "end", "rules", "Set", "set:", ":", "a", "1"):
            self.check_error("@" + word, "unknown line")
            self.check_error("  @" + word + ' a "x" ( y', "unknown line")

    def test_strings_and_signs(self):
        for token in ('"set"', '"rule"', '""', "(", ")", ",", "+"):
            self.check_error("@" + token, "unknown line")
            self.check_error("@" + token + "set a", "unknown line")

    def test_errors_in_the_tokens_come_first(self):
        self.check_error('a @"', "unterminated string")
        self.check_error('+ "@\\x"', "invalid escape")

    def test_the_end_of_a_rule_that_was_closed(self):
        self.check_error("rule a :\nend\n@end", "unknown line")


class TestErrorsInTokens(RecipeCase):
    def test_they_come_before_all_other_errors_of_the_line(self):
        for line in ('set A 1 @"', 'set @"', 'use @"', 'use A b @"', 'rule @"', 'rule a b c d @"', 'sealed A @"'):
            self.check_error(line, "unterminated string")
            self.check_error(line[:-2] + '"@\\x"', "invalid escape")

    def test_they_do_not_come_before_the_errors_of_earlier_lines(self):
        self.check_error('@a\nset b "', "unknown line")
        self.check_error('rule a :\n@a\nlet b "', "unknown line")
        self.check_error({"rules": 'use b\nset c "', "b": "@a"}, "unknown line")

    def test_the_path_and_the_line(self):
        self.check_error({"rules": "\nuse b/c\n", "b/c": '# \n\nset a @"x\n'}, "unterminated string")
        self.check_error('rule a :\n  put 1 "@\\x"\nend', "invalid escape")


class TestSet(RecipeCase):
    def test_settings_in_their_order(self):
        self.check_book('set b "x"\nset a ""\n  set  c_1   "\\n\\"\\\\ y"', [("b", "x"), ("a", ""), ("c_1", '\n"\\ y')],
                        [], ["rules"])

    def test_any_identifier_is_a_name(self):
        for name in ("stem", "set", "in", "read", "a" * 12):
            self.check_book("set " + name + ' "x"', [(name, "x")], [], ["rules"])

    def test_invalid_names(self):
        for token in ("A", "1", "a.b", "a/b", "_a", "a" * 13, '"a"', "(", "+", ":"):
            self.check_error("set @" + token + ' "x"', "invalid name")
            self.check_error("set @" + token, "invalid name")

    def test_duplicate_settings(self):
        self.check_error('set a "x"\nset @a "x"', "duplicate setting")
        self.check_error('set a "x"\nset b "x"\nset @a', "duplicate setting")
        self.check_error({"rules": 'set a "x"\nuse b', "b": '\nset @a "y"'}, "duplicate setting")
        self.check_error({"rules": 'use b\nset @a "x"', "b": 'set a "y"'}, "duplicate setting")

    def test_no_string(self):
        for token in ("x", "1", "(", "+", ","):
            self.check_error("set a @" + token, "string expected")
            self.check_error("set a @" + token + ' "x"', "string expected")

    def test_missing_tokens(self):
        self.check_error("set@", "missing token")
        self.check_error("  set@   ", "missing token")
        for name in "abcdefghijklmnopqrstuvwxyz":
            self.check_error("set " + name + "@", "missing token")
        self.check_error("set a@  \n", "missing token")

    def test_extra_tokens(self):
        for token in ("x", '"y"', "+", "#"):
            self.check_error('set a "x" @' + token, "extra token")
            self.check_error('set a "x"  @' + token + " z", "extra token")

    def test_a_setting_and_an_output_may_have_one_name(self):
        self.check_book('set a "x"\nrule a :\nend', [("a", "x")], [("a",)], ["rules"])


class TestFirstFile(RecipeCase):
    def check_missing(self, tree):
        self.check_error_of(tree, ("rules", 1, 1, "missing file"))

    def test_no_file(self):
        self.check_missing(Tree())
        self.check_missing(tree_of({"rules/a": "", "a": ""}))

    def test_a_file_that_a_build_wrote(self):
        tree = Tree()
        tree.write("rules", 'set a "x"', "build")
        self.check_missing(tree)

    def test_a_link_to_a_file(self):
        tree = tree_of({"a/b": 'set a "x"'})
        tree.link("rules", "a/b")
        book = parse_book(tree)
        self.assertEqual((book.settings, book.files), ({"a": "x"}, ["rules"]))

    def test_an_error_behind_a_link_has_the_name_of_the_link(self):
        tree = tree_of({"a": "b"})
        tree.link("rules", "a")
        self.check_error_of(tree, ("rules", 1, 1, "unknown line"))

    def test_links_to_nothing_and_to_a_file_of_a_build(self):
        tree = Tree()
        tree.link("rules", "a")
        self.check_missing(tree)
        tree.write("a", "", "build")
        self.check_missing(tree)
        tree.write("a", "", "person")
        self.assertEqual(parse_book(tree).files, ["rules"])

    def test_eight_and_nine_links(self):
        for count in (8, 9):
            tree = tree_of({"l" + str(count): ""})
            tree.link("rules", "l1")
            for at in range(1, count):
                tree.link("l" + str(at), "l" + str(at + 1))
            if count == 8:
                self.assertEqual(parse_book(tree).files, ["rules"])
            else:
                self.check_missing(tree)

    def test_links_without_an_end(self):
        tree = Tree()
        tree.link("rules", "rules")
        self.check_missing(tree)
        tree.link("rules", "a")
        tree.link("a", "rules")
        self.check_missing(tree)


class TestUse(RecipeCase):
    def test_files_are_read_at_once(self):
        files = {"rules": 'set a "1"\nrule r1 :\nend\nuse x/y\nset b "2"\nrule r2 :\nend\n',
                 "x/y": 'set c "3"\nuse z\nrule r3 :\nend',
                 "z": 'rule r4 :\nend\nset d "4"'}
        self.check_book(files, [("a", "1"), ("c", "3"), ("d", "4"), ("b", "2")],
                        [("r1",), ("r4",), ("r3",), ("r2",)], ["rules", "x/y", "z"])

    def test_the_first_error_in_the_order_of_reading(self):
        self.check_error({"rules": "use a\nb", "a": "\n@c"}, "unknown line")
        self.check_error({"rules": "@b\nuse a", "a": "c"}, "unknown line")
        self.check_error({"rules": "use a\n\n@b", "a": 'set c "x"'}, "unknown line")
        self.check_error({"rules": "use a\nb", "a": "use c\nd", "c": " @e"}, "unknown line")

    def test_a_file_that_is_named_twice(self):
        files = {"rules": "use a\nuse a\nuse b\nuse a\n", "a": 'set c "x"', "b": "use a\nuse b\nuse rules"}
        self.check_book(files, [("c", "x")], [], ["rules", "a", "b"])

    def test_the_first_file_and_files_that_are_still_read(self):
        self.check_book({"rules": "use rules\nuse a", "a": "use rules\nuse a\nuse b", "b": "use a"}, [], [],
                        ["rules", "a", "b"])

    def test_two_paths_of_one_file_are_two_files(self):
        tree = tree_of({"rules": "use a\nuse b", "a": "# nothing"})
        tree.link("b", "a")
        self.assertEqual(parse_book(tree).files, ["rules", "a", "b"])
        tree.write("a", 'set c "x"', "person")
        self.check_error_of(tree, ("b", 1, 5, "duplicate setting"))

    def test_invalid_paths(self):
        for token in ("A", "a//b", "/a", "*", "a*", ".a", "a/b/c/d/e", "a" * 13, '"a"', "(", "+", ":"):
            self.check_error("use @" + token, "invalid path")
            self.check_error("use @" + token + " b", "invalid path")

    def test_missing_tokens(self):
        self.check_error("use@", "missing token")
        self.check_error(" use@  \n", "missing token")

    def test_missing_files(self):
        self.check_error("use @a", "missing file")
        self.check_error("\n  use   @a b", "missing file")
        self.check_error({"rules": "use a", "a": "use @b"}, "missing file")
        tree = tree_of("use a")
        for make in (lambda: tree.write("a", "", "build"), lambda: tree.link("a", "a"), lambda: tree.link("a", "b"),
                     lambda: tree.write("b", "", "build"), lambda: tree.link("b", "a")):
            make()
            self.check_error_of(tree, ("rules", 1, 5, "missing file"))

    def test_links_to_files(self):
        tree = tree_of({"rules": "use a\n", "c": 'set d "x"\n'})
        tree.link("a", "b")
        tree.link("b", "c")
        book = parse_book(tree)
        self.assertEqual((book.settings, book.files), ({"d": "x"}, ["rules", "a"]))

    def test_extra_tokens(self):
        self.check_error({"rules": "use a @b", "a": ""}, "extra token")
        self.check_error({"rules": "use a @b", "a": "b"}, "extra token")
        self.check_error({"rules": 'use a @"b" c', "a": ""}, "extra token")

    def test_an_extra_token_in_a_line_without_effect(self):
        self.check_error("use rules @a", "extra token")
        self.check_error({"rules": "use a\nuse a @+", "a": ""}, "extra token")
        self.check_error({"rules": "use a", "a": "use a @a"}, "extra token")

    def test_reserved_outputs(self):
        self.check_error({"rules": "rule a :\nend\nuse @a", "a": ""}, "reserved output")
        self.check_error("rule b c a :\nend\nuse @a x", "reserved output")
        self.check_error({"rules": "use b\nuse @a", "b": "rule c a :\nend", "a": ""}, "reserved output")
        self.check_error({"rules": "rule a :\nend\nuse b", "b": "use @a", "a": ""}, "reserved output")

    def test_outputs_that_are_not_reserved(self):
        self.check_book({"rules": "rule b : a\nend\nuse a\n", "a": ""}, [], [("b",)], ["rules", "a"])
        self.check_book({"rules": "rule * x/* :\nend\nuse a\n", "a": ""}, [], [("*", "x/*")], ["rules", "a"])

    def test_eight_files(self):
        names = ["f" + str(at) for at in range(1, 8)]
        files = {"rules": uses(names + names) + "use rules"} | {name: "" for name in names}
        self.check_book(files, [], [], ["rules"] + names)

    def test_the_ninth_file(self):
        names = ["f" + str(at) for at in range(1, 8)]
        files = {"rules": uses(names) + "use @f8", "f8": ""} | {name: "" for name in names}
        self.check_error(files, "too many files")
        self.check_error(files | {"rules": uses(names) + "use @no/such extra"}, "too many files")
        self.check_error(files | {"rules": uses(names), "f7": "\nuse @f8"}, "too many files")

    def test_files_that_name_one_another_in_a_chain(self):
        files = {"rules": "use f1"} | {"f" + str(at): "use f" + str(at + 1) for at in range(1, 7)} | {"f7": "", "f8": ""}
        self.check_book(files, [], [], ["rules"] + ["f" + str(at) for at in range(1, 8)])
        self.check_error(files | {"f7": "use @f8"}, "too many files")

    def test_reserved_outputs_come_before_too_many_files(self):
        names = ["f" + str(at) for at in range(1, 8)]
        files = {"rules": uses(names) + "rule a :\nend\nuse @a", "a": ""} | {name: "" for name in names}
        self.check_error(files, "reserved output")

    def test_too_many_files_come_before_an_extra_token(self):
        names = ["f" + str(at) for at in range(1, 8)]
        self.check_error({"rules": uses(names) + "use @f8 x", "f8": ""} | {name: "" for name in names}, "too many files")

    def test_a_line_without_effect_when_there_are_eight_files(self):
        names = ["f" + str(at) for at in range(1, 8)]
        files = {"rules": uses(names) + "use f3 @x"} | {name: "" for name in names}
        self.check_error(files, "extra token")

    def test_a_file_that_is_named_in_a_rule(self):
        self.check_error({"rules": "rule b :\n@use a\nend", "a": ""}, "unknown line")


class TestOutputs(RecipeCase):
    def test_one_two_and_three_outputs(self):
        for words in ("a", "a b/c", "a b c.d", "*", "*.a a/*", "* a* *b"):
            for word in ("rule", "sealed"):
                (rule,) = parse(word + " " + words + " : \nend").rules
                self.assertEqual(rule, Rule(tuple(words.split()), (), word == "sealed", ()))

    def test_too_many_outputs(self):
        for token in ("d", "d :", "A", "*", "a", "rules", '"x"', "(", "d e :"):
            self.check_error("rule a b c @" + token, "too many outputs")
        self.check_error("sealed *.a *.b *.c @*.d :", "too many outputs")

    def test_invalid_paths(self):
        for token in ("A", "a//b", "a/b/c/d/e", "**", "*/*", ".*", "a" * 13, '"a"', '":"', "(", ",", "a:", "::"):
            self.check_error("rule @" + token + " :\nend", "invalid path")
            self.check_error("rule a @" + token, "invalid path")
            self.check_error("sealed * a* @" + token + " b", "invalid path")

    def test_mixed_outputs(self):
        self.check_error("rule a @* :", "mixed outputs")
        self.check_error("rule * @a :", "mixed outputs")
        self.check_error("rule a b @c* d :", "mixed outputs")
        self.check_error("sealed *.a *.b @c :", "mixed outputs")
        self.check_error("rule * @rules :", "mixed outputs")
        self.check_error("rule a :\nend\nrule * @a :", "mixed outputs")

    def test_duplicate_outputs_in_one_rule(self):
        self.check_error("rule a @a :", "duplicate output")
        self.check_error("rule a b @a :", "duplicate output")
        self.check_error("rule a/b c @c x", "duplicate output")
        self.check_error("sealed *.a @*.a :", "duplicate output")
        self.check_error("rule * *.a @* :", "duplicate output")

    def test_outputs_of_earlier_rules(self):
        self.check_error("rule a :\nend\nrule @a :\nend", "duplicate output")
        self.check_error("rule a b c :\nend\nsealed d @b :\nend", "duplicate output")
        self.check_error({"rules": "use x\nrule @a :", "x": "rule a :\nend"}, "duplicate output")
        self.check_error({"rules": "rule a :\nend\nuse x", "x": "rule b @a :"}, "duplicate output")

    def test_patterns_of_earlier_rules_may_stand_again(self):
        text = "rule * a* :\nend\nrule * :\nend\nrule a* * : *\nend"
        self.check_book(text, [], [("*", "a*"), ("*",), ("a*", "*")], ["rules"])

    def test_inputs_of_earlier_rules_may_be_outputs(self):
        self.check_book("rule a : b a\nend\nrule b : a\nend", [], [("a",), ("b",)], ["rules"])

    def test_reserved_outputs(self):
        self.check_error("rule @rules :", "reserved output")
        self.check_error("sealed a b @rules :", "reserved output")
        self.check_error({"rules": "use x/y\nrule @x/y :\nend", "x/y": ""}, "reserved output")
        self.check_error({"rules": "use x", "x": "rule @x :\nend"}, "reserved output")
        self.check_error({"rules": "use x\n", "x": "use y\nrule y2 @y", "y": ""}, "reserved output")

    def test_a_duplicate_comes_before_a_reserved_output(self):
        self.check_error("rule a @a rules :", "duplicate output")
        self.check_error("rule rules2 @rules rules :", "reserved output")

    def test_names_beside_recipe_files_are_free(self):
        tree = tree_of({"rules": "use x\nrule y rules/a :\nend\nrule * :\nend", "y": ""})
        tree.link("x", "y")
        self.assertEqual([rule.outputs for rule in parse_book(tree).rules], [("y", "rules/a"), ("*",)])

    def test_missing_output(self):
        for behind in ("", " a", " :", " A b", ' "x"'):
            self.check_error("rule @:" + behind, "missing output")
            self.check_error("sealed   @:" + behind + "\nend", "missing output")

    def test_missing_tokens(self):
        for line in ("rule@", "sealed@", "rule a@", "rule a b@", "rule a b c@", "  rule *@   ", "rule a@ \nend"):
            self.check_error(line, "missing token")

    def test_each_output_is_checked_completely_before_the_next_one(self):
        self.check_error("rule @A b c d", "invalid path")
        self.check_error("rule a @rules * d", "reserved output")
        self.check_error("rule a @a c d", "duplicate output")
        self.check_error("rule @rules :  A", "reserved output")


class TestInputs(RecipeCase):
    def check_inputs(self, head, inputs):
        (rule,) = parse(head + "\nend").rules
        self.assertEqual(rule.inputs, tuple(inputs.split()))

    def test_none_to_six_inputs(self):
        for inputs in ("", "x", "x y/z", "x y z", "x y z u", "x y z u v", "x y z u v w"):
            self.check_inputs("rule a : " + inputs, inputs)
            self.check_inputs("sealed * : " + inputs, inputs)

    def test_patterns_as_inputs_of_pattern_rules(self):
        self.check_inputs("rule *.o : *.c x *.h y/*", "*.c x *.h y/*")
        self.check_error("rule a : @*.c", "invalid path")
        self.check_error("rule a : x y @* A", "invalid path")

    def test_the_same_input_several_times(self):
        self.check_inputs("rule a : x x a rules x", "x x a rules x")
        self.check_inputs("rule * : * * x x *", "* * x x *")

    def test_too_many_inputs(self):
        for token in ("g", "a", "A", "*", '"x"', "(", ":", "g h"):
            self.check_error("rule o : a b c d e f @" + token, "too many inputs")
            self.check_error("rule * : a b c d e f @" + token, "too many inputs")

    def test_invalid_paths(self):
        for token in ("A", "a//b", "**", '"a"', "(", "+", ":", "a:", "a/b/c/d/e"):
            self.check_error("rule a : @" + token, "invalid path")
            self.check_error("rule a : b @" + token + " B", "invalid path")
            self.check_error("sealed * : * @" + token + "\nend", "invalid path")


class TestRuleLines(RecipeCase):
    def test_twenty_four_rules(self):
        book = parse(rules(0, 24))
        self.assertEqual([rule.outputs for rule in book.rules], [("r" + str(at),) for at in range(24)])

    def test_the_twenty_fifth_rule(self):
        for line in ("@rule a :\nend", "@sealed a :\nend", "@rule", "@rule :", "@sealed A", "@rule r1", "@rule rules :",
                     "  @rule a b c d"):
            self.check_error(rules(0, 24) + line, "too many rules")
        self.check_error(rules(0, 24) + 'rule @"', "unterminated string")
        self.check_error(rules(0, 24) + "rule \"@\\a", "invalid escape")

    def test_rules_of_all_files_count(self):
        files = {"rules": rules(0, 10) + "use a\n" + rules(30, 4), "a": rules(10, 10)}
        self.assertEqual(len(parse(files).rules), 24)
        self.check_error(files | {"a": rules(10, 11), "rules": rules(0, 10) + "use a\n" + rules(30, 3) + "@rule x :"},
                         "too many rules")
        self.check_error({"rules": rules(0, 24) + "use a", "a": "\n @rule x :"}, "too many rules")

    def test_other_lines_behind_twenty_four_rules(self):
        book = parse({"rules": rules(0, 24) + 'set a "x"\nuse b\n', "b": ""})
        self.assertEqual((book.settings, book.files), ({"a": "x"}, ["rules", "b"]))

    def test_pattern_rules_count_too(self):
        self.check_error("rule * :\nend\n" * 24 + "@rule a :", "too many rules")


class TestMissingEnd(RecipeCase):
    def test_files_that_end_with_a_newline_and_files_that_do_not(self):
        for text, line in (("rule a :", 2), ("rule a :\n", 3), ("rule a :\nfail", 3), ("rule a :\nfail\n", 4),
                           ("\n\nrule a :\n\n# x\n", 7), ("rule a :\nif stem\nend", 4), ("rule b :\nend\nrule a :\n", 5)):
            self.check_error_of(tree_of(text), ("rules", line, 1, "missing end"))

    def test_a_rule_does_not_continue_in_another_file(self):
        files = {"rules": "use a\nend", "a": "rule b :\nfail\n"}
        self.check_error_of(tree_of(files), ("a", 4, 1, "missing end"))
        self.check_error_of(tree_of(files | {"rules": "\nuse a\nb\n"}), ("a", 4, 1, "missing end"))

    def test_an_end_with_and_without_a_newline_behind_it(self):
        for text in ("rule a :\nend", "rule a :\nend\n", "rule a :\nend\n\n"):
            self.assertEqual(len(parse(text).rules), 1)

    def test_errors_in_the_body_come_first(self):
        self.check_error("rule a :\n@x\n", "unknown line")


if __name__ == "__main__":
    unittest.main()
