"""The running of tools."""

from kilnyard.errors import BuildError, Held
from kilnyard.keys import CONTENT_LENGTH, key_text
from kilnyard.paths import is_name_pattern, is_path
from kilnyard.scanning import is_identifier
from kilnyard.texts import apply_function, lines_of
from kilnyard.trees import MOST_LINKS

MOST_STEPS = 300
MOST_LOOKS = 60


class Run:
    """The result of a run."""

    def __init__(self, outcome, outputs, needs, steps, failure, held):
        self.outcome = outcome
        self.outputs = outputs
        self.needs = needs
        self.steps = steps
        self.failure = failure
        self.held = held


class ToolFailed(BuildError):
    """A run fails."""

    def __init__(self, failure):
        BuildError.__init__(self, f"the run fails: {failure}")
        self.failure = failure


def run_tool(book, job, view):
    """The result of the tool of a job's rule on what a view sees."""
    runner = Runner(book.rules[job.rule], job, view)
    try:
        outputs = runner.run()
    except ToolFailed as failing:
        return runner.result("failed", failure=failing.failure)
    except Held as holding:
        return runner.result("held", held=holding.job)
    return runner.result("done", outputs=outputs)


class Looks:
    """The questions that one run has asked a view, and their answers."""

    def __init__(self, view):
        self.view = view
        self.answers = {}

    def ask(self, question):
        """What the view sees; a question that was asked before is not asked again."""
        if question not in self.answers:
            if len(self.answers) == MOST_LOOKS:
                raise ToolFailed("too many looks")
            self.answers[question] = self.view.see(question)
        return self.answers[question]

    def ask_text(self, question):
        """The text whose key the view sees, or None."""
        key = self.ask(question)
        return None if key is None else key_text(key)

    def end_of_links(self, path):
        """The path at the end of the links from a path."""
        end = path
        for _ in range(MOST_LINKS):
            target = self.ask_text(("link", end))
            if target is None:
                return end
            end = target
        if self.ask(("link", end)) is not None:
            raise ToolFailed("too many links")
        return end

    def as_needs(self):
        """The questions with their answers, in the order in which they were asked."""
        return tuple([question + (seen,) for question, seen in self.answers.items()])


class Runner:
    """One run of a job's tool: its variables, its looks, its steps, and the texts of outputs so far."""

    def __init__(self, rule, job, view):
        self.rule = rule
        self.job = job
        self.looks = Looks(view)
        self.variables = {"stem": job.stem}
        self.texts = {}
        self.steps = 0

    def run(self):
        """Executes the whole body, and returns the texts of the outputs."""
        self._execute_all(self.rule.body)
        if len(self.texts) < len(self.job.outputs):
            raise ToolFailed("missing output")
        return tuple([self.texts[number] for number in sorted(self.texts)])

    def result(self, outcome, outputs=(), failure=None, held=None):
        """The result of the run as it stands now."""
        return Run(outcome, outputs, self.looks.as_needs(), self.steps, failure, held)

    def _execute_all(self, body):
        """Executes the statements of a body."""
        for statement in body:
            self._count_step()
            self._execute(statement)

    def _execute(self, statement):
        """Executes a statement."""
        word = statement[0]
        if word == "let":
            self.variables[statement[1]] = self._value(statement[2])
        elif word == "put":
            self._put(statement[1], self._value(statement[2]))
        elif word == "if":
            self._execute_all(statement[3] if self._value(statement[1]) == "" else statement[2])
        elif word == "each":
            self._execute_each(statement[1], lines_of(self._value(statement[2])), statement[3])
        else:
            raise ToolFailed("failed")

    def _execute_each(self, name, lines, body):
        """Executes a body once for each line."""
        for line in lines:
            self.variables[name] = line
            self._execute_all(body)

    def _put(self, number, text):
        """Gives an output its text."""
        if number in self.texts:
            raise ToolFailed("put twice")
        self.texts[number] = text

    def _count_step(self):
        """Counts a step that begins."""
        if self.steps == MOST_STEPS:
            raise ToolFailed("too many steps")
        self.steps += 1

    def _value(self, expression):
        """The value of an expression."""
        form = expression[0]
        if form == "name":
            return self.variables[expression[1]]
        if form == "text":
            return _checked(expression[1])
        if form == "join":
            return _checked("".join([self._value(term) for term in expression[1]]))
        arguments = [self._value(argument) for argument in expression[2]]
        self._count_step()
        return _checked(self._apply(expression[1], arguments))

    def _apply(self, word, arguments):
        """The value of a function for texts, not yet checked for its length."""
        if word == "read":
            return self._read(arguments[0])
        if word == "has":
            return self._has(arguments[0])
        if word == "list":
            return self._list(arguments[0], arguments[1])
        if word == "setting":
            return self._setting(arguments[0])
        return apply_function(word, arguments)

    def _read(self, path):
        """The content at the end of the links from a path."""
        text = self.looks.ask_text(("file", self._end_of_links(path)))
        if text is None:
            raise ToolFailed("no file")
        return text

    def _has(self, path):
        """Whether there is something at the end of the links from a path."""
        return "yes" if self.looks.ask(("has", self._end_of_links(path))) else ""

    def _end_of_links(self, path):
        """The path at the end of the links from a path at which the tool may look."""
        if not is_path(path):
            raise ToolFailed("invalid path")
        if self.rule.sealed and path not in self.job.inputs:
            raise ToolFailed("sealed")
        return self.looks.end_of_links(path)

    def _list(self, folder, pattern):
        """The listing of a directory and a name pattern."""
        if self.rule.sealed:
            raise ToolFailed("sealed")
        if folder != "" and not is_path(folder):
            raise ToolFailed("invalid path")
        if not is_name_pattern(pattern):
            raise ToolFailed("invalid pattern")
        return self.looks.ask_text(("listing", folder, pattern))

    def _setting(self, name):
        """The text of a setting, or the empty text if there is none."""
        if not is_identifier(name):
            return ""
        text = self.looks.ask_text(("setting", name))
        return "" if text is None else text


def _checked(text):
    """The text, if it is not longer than a value may be."""
    if len(text) > CONTENT_LENGTH:
        raise ToolFailed("too long")
    return text
