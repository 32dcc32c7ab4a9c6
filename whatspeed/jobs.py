"""The tasks of a program that runs: what each of them is at, and which of them comes first."""

LATER = ("later",)
READY = ("ready",)
SLEEP = ("sleep",)
ENDED = ("end",)


class Job:
    """What a task is at. Moments are told by their index."""

    def __init__(self, task):
        self.task = task
        self.name = task.name
        self.condition = LATER
        # The line of the statement that it takes next, and the Statement that it took last.
        self.at = task.entry
        self.last = None
        self.ticket = 0
        # Its place among all that ever began to wait, and the value for which it waits to find room.
        self.waits = 0
        self.given = 0
        # When it last got its core, and since when it is in its sleep or works without a break.
        self.got = 0
        self.since = 0
        # What its work cost at that time; None if it is not in a work.
        self.left = None
        # Its own variables, and how often the repeats that it is in are still to be gone through.
        self.own = {}
        self.rounds = {}


def current_ranks(jobs, lent):
    """The ranks of now, by the names of the tasks; lent has the holder of each lent lock, or None."""
    ranks = {job.name: job.task.rank for job in jobs}
    loans = []
    for job in jobs:
        if job.condition[0] == "lock" and lent.get(job.condition[1]) is not None:
            loans.append((job.name, lent[job.condition[1]]))
    # A rank may be lent on by each that waits, but no more often than that.
    for _ in loans:
        for lender, holder in loans:
            ranks[holder] = max(ranks[holder], ranks[lender])
    return ranks


def best_of(jobs, ranks):
    """The job with the greatest rank, of several the one with the least ticket."""
    return min(jobs, key=lambda job: (-ranks[job.name], job.ticket))


def worst_of(jobs, ranks):
    """The job with the least rank, of several the one with the greatest ticket."""
    return min(jobs, key=lambda job: (ranks[job.name], -job.ticket))


def first_waiting(jobs, ranks):
    """The job with the greatest rank, of several the one that began to wait first."""
    return min(jobs, key=lambda job: (-ranks[job.name], job.waits))
