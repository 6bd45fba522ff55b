"""Builds: bringing goals up to date at one host."""

from kilnyard.errors import InvalidPath
from kilnyard.paths import is_path
from kilnyard.progress import GOING, Progress
from kilnyard.refusals import BuildOver, InvalidGoals, NoSuchAttempt, NotReady, NotRunning
from kilnyard.running import run_tool
from kilnyard.views import View
from kilnyard.writing import carry_out, planned_writes

MOST_GOALS = 20


class Attempt:
    """One run of a job's tool, whose result is not brought yet."""

    def __init__(self, name, run):
        self.name = name
        self.run = run
        # Whether its result may still be brought, as far as this does not hang on the whole build.
        self.counts = True


class Build:
    """A build of goals at one host, which moves its jobs by itself and is driven by attempts."""

    def __init__(self, tree, book, settings, store, hall, goals, *, keep_going=False):
        # The limit is on the list as it is given: a goal that occurs twice counts once in what is built.
        if not 1 <= len(goals) <= MOST_GOALS:
            raise InvalidGoals(len(goals))
        for goal in goals:
            if not is_path(goal):
                raise InvalidPath(goal)
        self._goals = list({goal: True for goal in goals})
        self._attempts = []
        self._progress = Progress(View(tree, book, settings), store, hall, keep_going)
        self._progress.begin(self._goals)

    def outcome(self):
        """What has come of the build: "going" until it is over."""
        return self._progress.outcome

    def goals(self):
        """The goals in their order, each once."""
        return list(self._goals)

    def states(self):
        """A dict from the name of each needed job to its state."""
        return dict(self._progress.states)

    def ready(self):
        """The names of the ready jobs, in order."""
        return sorted([name for name, state in self._progress.states.items() if state == "ready"])

    def start(self, name):
        """Starts an attempt of a ready job; None if it is done or waits instead."""
        self._check_going()
        if not self._progress.is_in_state(name, "ready"):
            raise NotReady(name)
        return self._start_attempt(name)

    def start_again(self, name):
        """Starts one more attempt of a running job; None if it is done or waits instead."""
        self._check_going()
        if not self._progress.is_in_state(name, "running"):
            raise NotRunning(name)
        return self._start_attempt(name)

    def finish(self, attempt):
        """Brings the result of an attempt; False if the attempt does not count."""
        if not self._does_count(attempt):
            return False
        planned = self.writes(attempt)
        name = self._attempts[attempt].name
        run = self._attempts[attempt].run
        self._count_none_of(name)
        if run.outcome == "done":
            for write in planned:
                carry_out(write, self.view().tree, self._progress.store, self._progress.hall)
            self._progress.has_run(name, attempt)
        elif run.outcome == "failed":
            self._progress.fail(name, "tool", run.failure)
        else:
            self._progress.wait_for(name, run.held)
        self._progress.move_all()
        return True

    def drop(self, attempt):
        """Says that an attempt was lost; False if it does not count."""
        if not self._does_count(attempt):
            return False
        dropped = self._attempts[attempt]
        dropped.counts = False
        counting = [other for other in self._attempts if other.name == dropped.name and other.counts]
        self._progress.has_lost(dropped.name, attempt, len(counting))
        return True

    def give_up(self, name):
        """Makes a ready job fail."""
        self._check_going()
        if not self._progress.is_in_state(name, "ready"):
            raise NotReady(name)
        self._progress.fail(name, "lost", name)
        self._progress.move_all()

    def writes(self, attempt):
        """What `finish` of an attempt would write, in this order."""
        if not self._does_count(attempt) or self._attempts[attempt].run.outcome != "done":
            return []
        job = self._progress.jobs[self._attempts[attempt].name]
        return planned_writes(self.view().book, job, self._attempts[attempt].run, self._progress.hall)

    def attempt_count(self):
        """How many attempts were started."""
        return len(self._attempts)

    def job(self, name):
        """The needed job of this name, or None."""
        return self._progress.jobs.get(name)

    def attempt_job(self, attempt):
        """The name of the job of an attempt."""
        self._check_started(attempt)
        return self._attempts[attempt].name

    def attempt_steps(self, attempt):
        """The number of steps of the run of an attempt."""
        self._check_started(attempt)
        return self._attempts[attempt].run.steps

    def cancel(self):
        """Ends a build that is going."""
        self._progress.cancel()

    def contents(self):
        """A dict from each output of each done job to the content that the job made or took."""
        return dict(self._progress.contents)

    def failures(self):
        """A dict from the names of the failed jobs, and from the missing goals, to (word, detail)."""
        return dict(self._progress.failures)

    def rings(self):
        """The lists of the names of the jobs that were in the same ring."""
        return [list(ring) for ring in self._progress.rings]

    def ledger(self):
        """The entries in the order in which they were made."""
        return list(self._progress.ledger)

    def view(self):
        """The build's own view."""
        return self._progress.view

    def _start_attempt(self, name):
        """Decides a job anew, and runs its tool unless it is done or waits by that."""
        refused = self._progress.decide_job(name)
        if refused is None:
            self._count_none_of(name)
            self._progress.move_all()
            return None
        attempt = len(self._attempts)
        run = run_tool(self.view().book, self._progress.jobs[name], self.view())
        self._attempts.append(Attempt(name, run))
        self._progress.has_started(name, attempt, refused)
        return attempt

    def _count_none_of(self, name):
        """Makes no attempt of a job count any more."""
        for attempt in self._attempts:
            if attempt.name == name:
                attempt.counts = False

    def _does_count(self, attempt):
        """True if an attempt counts: none does when the build is over."""
        self._check_started(attempt)
        return self._attempts[attempt].counts and self.outcome() == GOING

    def _check_started(self, attempt):
        """Checks that an attempt of this number was started."""
        if not 0 <= attempt < len(self._attempts):
            raise NoSuchAttempt(attempt)

    def _check_going(self):
        """Checks that the build is not over."""
        if self.outcome() != GOING:
            raise BuildOver("the build is not going")
