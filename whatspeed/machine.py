"""How a program runs: openings, cores and steps, from moment to moment."""

from whatspeed.jobs import ENDED, LATER, READY, SLEEP, Job, best_of, current_ranks, first_waiting, worst_of
from whatspeed.steps import STEPS, is_fault
from whatspeed.ticks import minus, plus
from whatspeed.traces import Moment, Scene, Trace

MOST_TAKEN = 200


def trace_run(plan, scale, clock):
    """The Trace of a run; the clock tells for which s."""
    machine = Machine(plan, scale, clock)
    machine.begin()
    while machine.ending is None:
        machine.go_on()
    return machine.trace()


class Machine:
    """A program that runs."""

    def __init__(self, plan, scale, clock):
        self._plan = plan
        self._scale = scale
        self._clock = clock
        self._slice = scale.time_of_ticks(plan.slice_length)
        self._jobs = [Job(task) for task in plan.task_plans]
        self._on_cores = [None for _ in range(plan.core_count)]
        self._now = scale.time_of_ticks(0)
        self._opening = None
        self._told = []
        self._passed = []
        self._said = []
        self._tickets = 0
        self._turns = 0
        self._taken = 0
        self.ending = None
        self.holders = {name: None for name in plan.lock_names}
        self.rooms = {name: room for name, room in plan.queue_rooms}
        self.queued = {name: [] for name, _ in plan.queue_rooms}
        self.shared = {name: first for name, first in plan.cell_firsts}

    def begin(self):
        """The first moment."""
        for job in self._jobs:
            if not job.task.is_later:
                self.make_ready(job)
        self._pass_moment()

    def go_on(self):
        """The next moment, or the end if there is none."""
        coming = self._coming()
        if not coming:
            begun = [job for job in self._jobs if job.condition != LATER]
            self.ending = "done" if all([job.condition == ENDED for job in begun]) else "stuck"
            return
        times = [time for time, _, _, _ in coming]
        due = [coming[at] for at in self._clock.earliest(times)]
        when, word, job, began = due[0]
        self._now = when
        self._opening = (word, job.name, job.last.line, began)
        for _, word, job, _ in due:
            self._happen(word, job)
        self._pass_moment()

    def trace(self):
        """The Trace of all moments so far."""
        return Trace(self.ending, tuple(self._passed), tuple(self._said), self._scale)

    def ranks(self):
        """The ranks of now, by the names of the tasks."""
        return current_ranks(self._jobs, {name: self.holders[name] for name in self._plan.lent_names})

    def job_of(self, name):
        """The Job of a task."""
        return [job for job in self._jobs if job.name == name][0]

    def tell(self, word, job, number):
        """Adds an event."""
        self._told.append((word, job.name, number))

    def make_ready(self, job):
        """Lets a task become ready, with a new ticket."""
        self._tickets += 1
        job.ticket = self._tickets
        job.condition = READY

    def leave_core(self, job, condition):
        """Takes a task off its core, for this condition."""
        self._on_cores[job.condition[1]] = None
        job.condition = condition
        job.since = len(self._passed)

    def make_wait(self, job, condition):
        """Lets a running task wait."""
        self._turns += 1
        job.waits = self._turns
        self.leave_core(job, condition)

    def let_go(self, job):
        """Lets a waiting task become ready."""
        self.tell("go", job, job.last.line)
        self.make_ready(job)

    def let_one_go(self, condition):
        """Lets the first one of those that wait so become ready, and returns it; None if nobody does."""
        waiting = [job for job in self._jobs if job.condition == condition]
        if not waiting:
            return None
        job = first_waiting(waiting, self.ranks())
        self.let_go(job)
        return job

    def begin_work(self, job, ticks, part):
        """Lets a running task begin a work, which is over at once if it costs nothing."""
        cost = self._scale.cost(ticks, part)
        if self._clock.sign(cost) > 0:
            job.left = cost
            job.since = len(self._passed)

    def add_output(self, job, value):
        """Adds an output."""
        self._said.append((len(self._passed), job.name, value))

    def _pass_moment(self):
        """The rest of a moment, behind its openings."""
        self._settle()
        while self.ending is None and self._take_step():
            self._settle()
        self._passed.append(Moment(self._now, tuple(self._told), self._present_scene(), self._opening))
        self._told = []

    def _present_scene(self):
        works = []
        for job in self._on_cores:
            in_work = job is not None and job.left is not None
            works.append((job.name, self._plan.part_of(job.last.line)) if in_work else None)
        return Scene(
            {job.name: job.condition for job in self._jobs},
            tuple(works),
            {job.name: dict(job.own) for job in self._jobs},
            tuple([(name, self.shared[name]) for name, _ in self._plan.cell_firsts]),
            {name: tuple(queued) for name, queued in self.queued.items()},
            dict(self.holders),
        )

    def _when(self, moment):
        """The time of a moment, which may be that of now."""
        return self._passed[moment].when if moment < len(self._passed) else self._now

    def _coming(self):
        """All that can be the opening of the next moment, those first that count first: (time, word, job, began)."""
        coming = []
        for job in self._jobs:
            if job.condition == SLEEP:
                length = self._scale.time_of_ticks(job.last.found[1])
                coming.append((plus(self._when(job.since), length), "sleep", job, job.since))
        running = [job for job in self._on_cores if job is not None]
        for job in running:
            coming.append((plus(self._when(job.since), job.left), "work", job, job.since))
        for job in self._rivals(running):
            coming.append((plus(self._when(job.got), self._slice), "slice", job, job.got))
        return coming

    def _rivals(self, running):
        """The running jobs that will lose their cores when their slices are over."""
        ready = [job for job in self._jobs if job.condition == READY]
        if not ready or self._plan.slice_length == 0:
            return []
        ranks = self.ranks()
        best = best_of(ready, ranks)
        return [job for job in running if ranks[job.name] == ranks[best.name]]

    def _happen(self, word, job):
        if word == "sleep":
            self.tell("wake", job, job.last.line)
            self.make_ready(job)
        elif word == "work":
            self.tell("over", job, job.last.line)
            job.left = None

    def _settle(self):
        while self.ending is None and self._change_cores():
            pass

    def _change_cores(self):
        """Follows the first rule for cores that applies; whether there is one."""
        ready = [job for job in self._jobs if job.condition == READY]
        if not ready:
            return False
        ranks = self.ranks()
        best = best_of(ready, ranks)
        if None in self._on_cores:
            self._give_core(best, self._on_cores.index(None))
            return True
        worst = worst_of(self._on_cores, ranks)
        if ranks[worst.name] < ranks[best.name]:
            self._replace("stop", worst, best)
            return True
        return self._change_slices(best, [job for job in self._on_cores if ranks[job.name] == ranks[best.name]])

    def _change_slices(self, best, rivals):
        for job in rivals:
            if self._is_slice_over(job):
                if self._is_let():
                    self._replace("slice", job, best)
                return True
        return False

    def _is_slice_over(self, job):
        if self._plan.slice_length == 0:
            return False
        had = minus(self._now, self._when(job.got))
        return self._clock.sign(minus(had, self._slice)) >= 0

    def _is_let(self):
        """Counts one more of what may happen so often only; ends the run if it is one too many."""
        if self._taken == MOST_TAKEN:
            self.ending = "long"
            return False
        self._taken += 1
        return True

    def _replace(self, word, job, best):
        """Gives the core of a job to the best one."""
        core = job.condition[1]
        self.tell(word, job, core)
        if job.left is not None:
            job.left = minus(job.left, minus(self._now, self._when(job.since)))
        if word == "slice":
            self.make_ready(job)
        else:
            job.condition = READY
        self._give_core(best, core)

    def _give_core(self, job, core):
        self._on_cores[core] = job
        job.condition = ("run", core)
        job.got = job.since = len(self._passed)
        self.tell("run", job, core)

    def _take_step(self):
        """Lets the first running task that is not in a work take its next statement; whether there is one."""
        free = [job for job in self._on_cores if job is not None and job.left is None]
        if not free:
            return False
        job = free[0]
        if job.at is None:
            self._end(job)
        elif self._is_let():
            statement = self._plan.statements[job.at]
            self.tell("step", job, statement.line)
            if is_fault(self, job, statement):
                self.ending = "fault"
            else:
                job.last = statement
                job.at = statement.onward
                action = STEPS[statement.kind]
                action(self, job, statement)
        return True

    def _end(self, job):
        self.tell("end", job, job.task.line)
        self.leave_core(job, ENDED)
        for waiting in [other for other in self._jobs if other.condition == ("task", job.name)]:
            self.let_go(waiting)
