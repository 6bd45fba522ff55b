"""Reasons: whether the entries of a build's ledger hold by what stands now."""

from kilnyard.deciding import candidates, decide, first_missing_result, has_result, record_at
from kilnyard.errors import Held
from kilnyard.records import question
from kilnyard.running import run_tool
from kilnyard.sources import is_missing
from kilnyard.targets import makers_of


def check_entry(entry, build, store, hall):
    """True if an entry of a build's ledger holds by what stands now."""
    if entry[0] == "missing":
        view = build.view()
        return entry[1] in build.goals() and is_missing(view.tree, view.book, entry[1])
    job = build.job(entry[1])
    return job is not None and Checker(build, job, store, hall).accepts(entry)


class Checker:
    """Checks the entries of a build about one of its jobs."""

    def __init__(self, build, job, store, hall):
        self.build = build
        self.job = job
        self.view = build.view()
        self.store = store
        self.hall = hall

    def accepts(self, entry):
        """True if an entry about the job holds."""
        kind = entry[0]
        if kind == "take":
            return (entry[2], entry[3]) in self._candidates() and self._is_done_by(entry[2], entry[3])
        if kind == "wait":
            return self._waits_for(entry[2])
        if kind == "fail":
            return self._fails_so(entry[2], entry[3])
        if not self._is_attempt(entry[2]):
            return False
        if kind == "run":
            return self._are_refused(entry[3])
        return kind == "lost" or self._is_done_by_newest()

    def _candidates(self):
        """The candidates of the job as they are now."""
        return candidates(self.job, self.view.book, self.store, self.hall)

    def _is_attempt(self, attempt):
        """True if the attempt is one of the job."""
        return 0 <= attempt < self.build.attempt_count() and self.build.attempt_job(attempt) == self.job.name()

    def _is_done_by(self, place, index):
        """True if the job is done, a candidate has no changed need, and its results lie in the tree."""
        record = record_at(place, index, self.store, self.hall)
        if not self.view.is_done(self.job) or self._first_change(record) is not None:
            return False
        return all([has_result(path, key, self.view.tree) for path, key in zip(record.outputs, record.results)])

    def _is_done_by_newest(self):
        """True if the job is done as the newest of its records in the host's store tells."""
        own = [index for place, index in self._candidates() if place == "own"]
        return own != [] and self._is_done_by("own", own[0])

    def _are_refused(self, refused):
        """True if these are the candidates of the job, and each one is refused as is said."""
        if [refusal[:2] for refusal in refused] != self._candidates():
            return False
        return all([self._is_refused(refusal) for refusal in refused])

    def _is_refused(self, refusal):
        """True if a candidate is refused as is said."""
        record = record_at(refusal[0], refusal[1], self.store, self.hall)
        change = self._first_change(record)
        if refusal[2] == "need":
            return change == refusal[3] and self._sees(question(record.needs[change]), refusal[4])
        return change is None and first_missing_result(record, self.view.tree, self.store, self.hall) == refusal[3]

    def _first_change(self, record):
        """The index of the first need of a record that is changed or held, or None."""
        for at, need in enumerate(record.needs):
            if not self._sees(question(need), need[-1]):
                return at
        return None

    def _sees(self, asked, answer):
        """True if the view sees this answer to a question."""
        try:
            seen = self.view.see(asked)
        except Held:
            return False
        # The key of the empty text is equal to True.
        return seen == answer and isinstance(seen, bool) == isinstance(answer, bool)

    def _waits_for(self, name):
        """True if the job is held at the job of this name where that one is not done."""
        view = self.view.without(name)
        try:
            decision = decide(self.job, view, self.store, self.hall)
        except Held as holding:
            return holding.job.name() == name
        if decision[0] != "run":
            return False
        run = run_tool(view.book, self.job, view)
        return run.outcome == "held" and run.held.name() == name

    def _fails_so(self, word, detail):
        """True if the job has failed with this word and this detail, and there is the reason for it."""
        failures = self.build.failures()
        if failures.get(self.job.name()) != (word, detail):
            return False
        if word == "blocked":
            # The other job has failed, or the build would not have blocked this one by it.
            return self._makes_use_of(detail)
        if word == "missing":
            missing = [path for path in self.job.inputs if is_missing(self.view.tree, self.view.book, path)]
            return missing != [] and missing[0] == detail
        if word == "tool":
            return run_tool(self.view.book, self.job, self.view).failure == detail
        if word == "ring":
            ringed = [other for other, failure in failures.items() if failure[0] == "ring"]
            return any([self._makes_use_of(other) for other in ringed])
        return True

    def _makes_use_of(self, name):
        """True if the job of this name makes an input of the job, or the job waits for it."""
        makers = [other.name() for other in makers_of(self.view.book, self.job.inputs)]
        return name in makers or self._waits_for(name)
