"""Crews: workers that run one build, moment by moment."""

from kilnyard.refusals import (InvalidCrew, InvalidDelay, NoSuchWorker, WorkerGone, WorkerIdle, WorkerThere)

MOST_WORKERS = 8
FASTEST = 9
MOST_PATIENCE = 100
MOST_TRIES = 9
LONGEST_DELAY = 100

IDLE = "idle"
BUSY = "busy"
GONE = "gone"


class Worker:
    """A worker of a crew; it has an attempt exactly while it is busy."""

    def __init__(self, speed):
        self.speed = speed
        self.state = IDLE
        self.attempt = None
        self.began = 0
        self.ends = 0

    def begin(self, attempt, steps, clock):
        """Becomes busy with an attempt of so many steps."""
        self.state = BUSY
        self.attempt = attempt
        self.began = clock
        # The moments are rounded up: a moment that is begun is a whole one.
        self.ends = clock + max(1, (steps + self.speed - 1) // self.speed)

    def leave(self, state):
        """Has no attempt any more, and becomes idle or gone."""
        self.state = state
        self.attempt = None


class Crew:
    """A clock and the workers that start and finish the attempts of a build."""

    def __init__(self, build, speeds, *, patience=0, tries=3):
        if not 1 <= len(speeds) <= MOST_WORKERS:
            raise InvalidCrew(f"a crew has 1 to {MOST_WORKERS} workers")
        if not all([1 <= speed <= FASTEST for speed in speeds]):
            raise InvalidCrew(f"a speed is 1 to {FASTEST}")
        if not 0 <= patience <= MOST_PATIENCE:
            raise InvalidCrew(f"a patience is 0 to {MOST_PATIENCE}")
        if not 1 <= tries <= MOST_TRIES:
            raise InvalidCrew(f"a crew allows 1 to {MOST_TRIES} tries")
        self._build = build
        self._workers = [Worker(speed) for speed in speeds]
        self._patience = patience
        self._tries = tries
        self._clock = 0
        # How many lost tries the jobs have had, by their names.
        self._lost = {}

    def clock(self):
        """How many moments have gone by."""
        return self._clock

    def worker_state(self, worker):
        """What a worker is: "idle", "busy" or "gone"."""
        return self._worker(worker).state

    def worker_attempt(self, worker):
        """The attempt of a busy worker, or None."""
        return self._worker(worker).attempt

    def tick(self):
        """Lets one moment go by; how many attempts that counted were finished."""
        if not self._is_going():
            return 0
        self._clock += 1
        brought = self._bring_results()
        self._give_work()
        if self._patience > 0:
            self._help_once()
        if not self._is_going():
            for worker in self._busy():
                worker.leave(IDLE)
        return brought

    def run(self, moments):
        """Lets up to so many moments go by while the build is going; how many there were."""
        ticks = 0
        while ticks < moments and self._is_going():
            self.tick()
            ticks += 1
        return ticks

    def lose(self, worker):
        """Makes a worker gone, which loses its attempt."""
        gone = self._worker(worker)
        if gone.state == GONE:
            raise WorkerGone(worker)
        attempt = gone.attempt
        gone.leave(GONE)
        if attempt is not None and self._build.drop(attempt):
            self._lose_try(self._build.attempt_job(attempt))

    def hire(self, worker):
        """Makes a worker idle that is gone."""
        hired = self._worker(worker)
        if hired.state != GONE:
            raise WorkerThere(worker)
        hired.leave(IDLE)

    def delay(self, worker, moments):
        """Makes the attempt of a busy worker end later."""
        delayed = self._busy_worker(worker)
        if not 1 <= moments <= LONGEST_DELAY:
            raise InvalidDelay(moments)
        delayed.ends += moments

    def bring_twice(self, worker):
        """Lets a busy worker bring its result twice; how many of the two counted."""
        bringing = self._busy_worker(worker)
        counted = [self._build.finish(bringing.attempt), self._build.finish(bringing.attempt)]
        bringing.leave(IDLE)
        return counted.count(True)

    def _bring_results(self):
        """Finishes the attempts that end by now; how many of them counted."""
        brought = 0
        for worker in self._busy():
            if worker.ends <= self._clock:
                if self._build.finish(worker.attempt):
                    brought += 1
                worker.leave(IDLE)
        return brought

    def _give_work(self):
        """Starts attempts of ready jobs for the idle workers."""
        for worker in self._workers:
            while worker.state == IDLE and self._is_going() and self._build.ready() != []:
                self._begin(worker, self._build.start(self._build.ready()[0]))

    def _help_once(self):
        """Starts a slow job again for the first idle worker."""
        idle = [worker for worker in self._workers if worker.state == IDLE]
        slow = self._slow_jobs()
        if idle != [] and slow != [] and self._is_going():
            self._begin(idle[0], self._build.start_again(min(slow)))

    def _slow_jobs(self):
        """The running jobs that a single worker has had for as long as the crew is patient."""
        workers_of = {}
        for worker in self._busy():
            workers_of.setdefault(self._build.attempt_job(worker.attempt), []).append(worker)
        states = self._build.states()
        return [name for name, workers in workers_of.items() if states.get(name) == "running"
                and len(workers) == 1 and self._clock - workers[0].began >= self._patience]

    def _begin(self, worker, attempt):
        """Makes a worker busy with an attempt, if one was started."""
        if attempt is not None:
            worker.begin(attempt, self._build.attempt_steps(attempt), self._clock)

    def _lose_try(self, name):
        """Counts a lost try of a job, unless another attempt of it counts, and gives it up after the last one."""
        if name not in self._build.ready():
            return
        self._lost[name] = self._lost.get(name, 0) + 1
        if self._lost[name] >= self._tries:
            self._build.give_up(name)

    def _is_going(self):
        """True if the build is not over."""
        return self._build.outcome() == "going"

    def _busy(self):
        """The busy workers in the order of their numbers."""
        return [worker for worker in self._workers if worker.state == BUSY]

    def _worker(self, number):
        """The worker of a number."""
        if not 0 <= number < len(self._workers):
            raise NoSuchWorker(number)
        return self._workers[number]

    def _busy_worker(self, number):
        """The worker of a number that must be busy."""
        worker = self._worker(number)
        if worker.state != BUSY:
            raise WorkerIdle(number)
        return worker
