"""Building from nothing: what a build has to give."""

from kilnyard.errors import BuildError, Held
from kilnyard.keys import content_key
from kilnyard.rings import find_rings
from kilnyard.running import run_tool
from kilnyard.sources import is_missing, see_source
from kilnyard.targets import maker, makers_of

MOST_JOBS = 60


class Outcome:
    """What building from nothing gives."""

    def __init__(self, outcome, contents, failures, rings, jobs):
        self.outcome = outcome
        self.contents = contents
        self.failures = failures
        self.rings = rings
        self.jobs = jobs


class TooManyJobs(BuildError):
    """More jobs would be needed than a build may have."""


def build_from_nothing(tree, book, settings, goals):
    """What the goals come to, from the links and the files of persons alone."""
    plain = settled_build(tree, book, settings, goals)
    if plain is None:
        return Outcome("too many", {}, {}, [], [])
    failures = plain.failures
    for goal in goals:
        if is_missing(tree, book, goal):
            failures[goal] = ("missing", goal)
    outcome = "done" if failures == {} else "failed"
    return Outcome(outcome, plain.contents, failures, plain.rings, sorted(plain.jobs))


def settled_build(tree, book, settings, goals):
    """The plain build of the goals with all needed jobs settled, or None if there would be too many."""
    plain = PlainBuild(tree, book, settings)
    try:
        for job in makers_of(book, goals):
            plain.need(job)
        plain.settle_all()
    except TooManyJobs:
        return None
    return plain


class PlainView:
    """Answers questions from the contents that jobs gave and from what persons wrote."""

    def __init__(self, tree, book, settings):
        self.tree = tree
        self.book = book
        self.settings = settings
        self.contents = {}

    def see(self, question):
        """What is seen; the key of a content that a job makes only if the job is done."""
        if question[0] == "file":
            path = question[1]
            if path in self.contents:
                return content_key(self.contents[path])
            job = maker(self.book, path)
            if job is not None:
                raise Held(job)
        return see_source(self.tree, self.book, self.settings, question)


class PlainBuild:
    """The needed jobs, and what has come of them so far."""

    def __init__(self, tree, book, settings):
        self.tree = tree
        self.book = book
        self.view = PlainView(tree, book, settings)
        self.contents = self.view.contents
        self.jobs = {}
        # The names of the jobs that are not settled, each with the names of the jobs that it waits for.
        self.waits = {}
        self.failures = {}
        self.rings = []
        # The last runs of the tools, by the names of their jobs.
        self.runs = {}

    def need(self, job):
        """Makes a job needed, and the jobs that make its inputs."""
        name = job.name()
        if name in self.jobs:
            return
        if len(self.jobs) == MOST_JOBS:
            raise TooManyJobs("more jobs would be needed than a build may have")
        self.jobs[name] = job
        others = makers_of(self.book, job.inputs)
        self.waits[name] = [other.name() for other in others]
        for other in others:
            self.need(other)

    def settle_all(self):
        """Settles all needed jobs."""
        while self.waits != {}:
            name = self._next()
            if name is None:
                self._fail_rings()
            else:
                self._move(name)

    def uses(self, name):
        """The names of the jobs that make inputs of a job, or what its last run saw, or at which it was held."""
        paths = list(self.jobs[name].inputs)
        held = []
        if name in self.runs:
            run = self.runs[name]
            paths.extend([need[1] for need in run.needs if need[0] == "file"])
            held = [] if run.held is None else [run.held]
        return sorted(set([other.name() for other in makers_of(self.book, paths) + held]))

    def _next(self):
        """The least name of a job that waits for settled jobs alone, or None."""
        for name in sorted(self.waits):
            if all([other not in self.waits for other in self.waits[name]]):
                return name
        return None

    def _move(self, name):
        """Settles a job that waits for settled jobs alone, unless its run is held."""
        failed = [other for other in self.waits[name] if other in self.failures]
        missing = [path for path in self.jobs[name].inputs if is_missing(self.tree, self.book, path)]
        if failed != []:
            self._fail(name, "blocked", min(failed))
        elif missing != []:
            self._fail(name, "missing", missing[0])
        else:
            self._run(name)

    def _run(self, name):
        """Runs the tool of a job."""
        job = self.jobs[name]
        run = run_tool(self.book, job, self.view)
        self.runs[name] = run
        if run.outcome == "done":
            for path, text in zip(job.outputs, run.outputs):
                self.contents[path] = text
            del self.waits[name]
        elif run.outcome == "failed":
            self._fail(name, "tool", run.failure)
        else:
            # A job that was held and comes to wait for a failed job is blocked at its next move.
            self.need(run.held)
            self.waits[name] = [run.held.name()]

    def _fail_rings(self):
        """Fails the jobs of all rings."""
        rings = find_rings(self.waits)
        for ring in rings:
            for name in ring:
                self._fail(name, "ring", name)
        self.rings = sorted(self.rings + rings)

    def _fail(self, name, word, detail):
        """Settles a job as failed."""
        self.failures[name] = (word, detail)
        del self.waits[name]
