"""The needed jobs of a build, and how they come to be settled."""

from kilnyard.deciding import decide, take
from kilnyard.errors import Held
from kilnyard.rings import find_rings
from kilnyard.sources import is_missing
from kilnyard.targets import makers_of

MOST_JOBS = 60

GOING = "going"


class Progress:
    """What has come of the goals and the needed jobs of one build so far."""

    def __init__(self, view, store, hall, keep_going):
        self.view = view
        self.store = store
        self.hall = hall
        self.keep_going = keep_going
        self.outcome = GOING
        self.ledger = []
        self._forget_all()

    def begin(self, goals):
        """Makes the jobs that make goals needed, finds the missing goals, and moves jobs."""
        for job in makers_of(self.view.book, goals):
            self._need(job)
        # Too many jobs end a build before its missing goals are looked for.
        if self.outcome == GOING:
            self._find_missing(goals)
        self.move_all()

    def move_all(self):
        """Moves jobs until none can move, or until the build is over."""
        while self.outcome == GOING:
            name = self._next_to_move()
            if name is not None:
                self._move(name)
            elif self._has_work():
                return
            elif self.waits != {}:
                self._fail_rings()
            else:
                self.outcome = "done" if self.failures == {} else "failed"

    def decide_job(self, name):
        """Decides a job. Its refused candidates if its tool has to run, else None: it is done then, or waits."""
        job = self.jobs[name]
        try:
            decision = decide(job, self.view, self.store, self.hall)
        except Held as holding:
            self.wait_for(name, holding.job)
            return None
        if decision[0] == "run":
            return decision[1]
        take(job, decision, self.view, self.store, self.hall)
        self.ledger.append(("take", name, decision[1], decision[2]))
        self._settle(name)
        return None

    def wait_for(self, name, other):
        """Makes a job wait for the job at which it was held, for that one alone."""
        self.ledger.append(("wait", name, other.name()))
        self.states[name] = "waiting"
        self.waits[name] = [other.name()]
        # This comes last: it may end the build.
        self._need(other)

    def is_in_state(self, name, state):
        """True if there is a needed job of this name in this state."""
        return self.states.get(name) == state

    def has_started(self, name, attempt, refused):
        """Tells of an attempt of a job whose records were refused."""
        self.ledger.append(("run", name, attempt, refused))
        self.states[name] = "running"

    def has_run(self, name, attempt):
        """Makes a job done by an attempt whose results are in the tree."""
        self.ledger.append(("ran", name, attempt))
        self._settle(name)

    def has_lost(self, name, attempt, counting):
        """Tells of a lost attempt of a job of which so many others count."""
        self.ledger.append(("lost", name, attempt))
        if counting == 0:
            self.states[name] = "ready"

    def cancel(self):
        """Ends a build that is going."""
        if self.outcome == GOING:
            self.outcome = "cancelled"

    def fail(self, name, word, detail):
        """Makes a job fail, which ends the build unless it keeps going."""
        self._fail_one(name, word, detail)
        self._end_if_failed()

    def _forget_all(self):
        """Leaves no job, and nothing that has come of jobs and goals."""
        self.jobs = {}
        self.states = {}
        # The names of the waiting jobs, each with the names of the jobs that it waits for.
        self.waits = {}
        self.contents = {}
        self.failures = {}
        self.rings = []

    def _need(self, job):
        """Makes a job needed, and the jobs that make its inputs."""
        waiting = [job]
        while waiting != []:
            present = waiting.pop()
            name = present.name()
            if self.outcome != GOING or name in self.jobs:
                continue
            if len(self.jobs) == MOST_JOBS:
                self.outcome = "too many"
                self._forget_all()
                continue
            others = makers_of(self.view.book, present.inputs)
            self.jobs[name] = present
            self.states[name] = "waiting"
            self.waits[name] = [other.name() for other in others]
            waiting.extend(others)

    def _find_missing(self, goals):
        """Finds the goals that no job makes and no person wrote."""
        for goal in goals:
            if is_missing(self.view.tree, self.view.book, goal):
                self.failures[goal] = ("missing", goal)
                self.ledger.append(("missing", goal))
        self._end_if_failed()

    def _settle(self, name):
        """Makes a job done whose results are in the tree."""
        self.states[name] = "done"
        for path in self.jobs[name].outputs:
            self.contents[path] = self.view.tree.read(path)
        self.view.mark_done(self.jobs[name])

    def _next_to_move(self):
        """The least name of a job that waits for settled jobs alone, or None."""
        for name in sorted(self.waits):
            if all([self.states[other] in ("done", "failed") for other in self.waits[name]]):
                return name
        return None

    def _has_work(self):
        """True if a job is ready or running."""
        return any([state in ("ready", "running") for state in self.states.values()])

    def _move(self, name):
        """Moves a job that waits for settled jobs alone."""
        failed = [other for other in self.waits[name] if other in self.failures]
        missing = [path for path in self.jobs[name].inputs if is_missing(self.view.tree, self.view.book, path)]
        del self.waits[name]
        if failed != []:
            self.fail(name, "blocked", min(failed))
        elif missing != []:
            self.fail(name, "missing", missing[0])
        elif self.decide_job(name) is not None:
            self.states[name] = "ready"

    def _fail_rings(self):
        """Makes all jobs that are in rings fail, also if the first failure ends the build."""
        # There are no rings later: the other waiting jobs wait for these, and come to be blocked.
        self.rings = find_rings(self.waits)
        for name in sorted([member for ring in self.rings for member in ring]):
            del self.waits[name]
            self._fail_one(name, "ring", name)
        self._end_if_failed()

    def _fail_one(self, name, word, detail):
        """Settles a job as failed."""
        self.states[name] = "failed"
        self.failures[name] = (word, detail)
        self.ledger.append(("fail", name, word, detail))

    def _end_if_failed(self):
        """Ends a build that has failures, unless it keeps going."""
        if self.failures != {} and not self.keep_going:
            self.outcome = "failed"
