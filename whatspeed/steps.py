"""What the statements do: one function for each kind, over the machine, the job that takes it, and the Statement."""

from whatspeed.expressions import value_of
from whatspeed.jobs import ENDED, LATER, SLEEP


def is_fault(machine, job, statement):
    """Whether a statement must not be taken."""
    name = statement.found[1]
    if statement.kind == "get":
        return machine.holders[name] == job.name
    if statement.kind == "unlock":
        return machine.holders[name] != job.name
    return statement.kind == "start" and machine.job_of(name).condition != LATER


def _worth(machine, job, tree):
    return value_of(tree, machine.shared, job.own)


def _assign(machine, job, name, value):
    if name in machine.shared:
        machine.shared[name] = value
    else:
        job.own[name] = value


def _work(machine, job, statement):
    found = statement.found
    machine.begin_work(job, found[1], found[2] if len(found) > 2 else "")


def _set(machine, job, statement):
    name, _, tree = statement.found
    _assign(machine, job, name, _worth(machine, job, tree))


def _choose(machine, job, statement):
    if _worth(machine, job, statement.found[1]) == 0:
        job.at = statement.aside


def _repeat(machine, job, statement):
    many = statement.found[1]
    left = job.rounds.get(statement.line, many)
    if left > 0:
        job.rounds[statement.line] = left - 1
    else:
        # Whoever comes to it from outside again goes through it as often again.
        job.rounds[statement.line] = many
        job.at = statement.aside


def _lock(machine, job, statement):
    name = statement.found[1]
    if machine.holders[name] is None:
        machine.holders[name] = job.name
    else:
        machine.make_wait(job, ("lock", name))


def _unlock(machine, job, statement):
    name = statement.found[1]
    heir = machine.let_one_go(("lock", name))
    machine.holders[name] = None if heir is None else heir.name


def _put(machine, job, statement):
    _, name, tree = statement.found
    value = _worth(machine, job, tree)
    taker = machine.let_one_go(("value", name))
    if taker is not None:
        _assign(machine, taker, taker.last.found[2], value)
    elif len(machine.queued[name]) < machine.rooms[name]:
        machine.queued[name].append(value)
    else:
        job.given = value
        machine.make_wait(job, ("room", name))


def _take(machine, job, statement):
    _, name, variable = statement.found
    if not machine.queued[name]:
        machine.make_wait(job, ("value", name))
        return
    _assign(machine, job, variable, machine.queued[name].pop(0))
    giver = machine.let_one_go(("room", name))
    if giver is not None:
        machine.queued[name].append(giver.given)


def _sleep(machine, job, statement):
    machine.leave_core(job, SLEEP)
    if statement.found[1] == 0:
        machine.tell("wake", job, statement.line)
        machine.make_ready(job)


def _start(machine, job, statement):
    machine.make_ready(machine.job_of(statement.found[1]))


def _wait(machine, job, statement):
    name = statement.found[1]
    if machine.job_of(name).condition != ENDED:
        machine.make_wait(job, ("task", name))


def _say(machine, job, statement):
    machine.add_output(job, _worth(machine, job, statement.found[1]))


STEPS = {
    "work": _work,
    "set": _set,
    "if": _choose,
    "while": _choose,
    "repeat": _repeat,
    "get": _lock,
    "unlock": _unlock,
    "put": _put,
    "take": _take,
    "sleep": _sleep,
    "start": _start,
    "wait": _wait,
    "say": _say,
}
