"""A second way to run a program, for comparison: each task is a Python generator, times are Fractions."""

from fractions import Fraction


def worth(words, read):
    """The value of an expression, worked out word by word."""
    rest = list(words)

    def factor():
        word = rest.pop(0)
        if word == "(":
            value = compared()
            assert rest.pop(0) == ")"
            return value
        return int(word) if word.isdigit() else read(word)

    def product():
        value = factor()
        while rest[:1] == ["*"]:
            rest.pop(0)
            value = value * factor() % 1000
        return value

    def summed():
        value = product()
        while rest[:1] in (["+"], ["-"]):
            sign = 1 if rest.pop(0) == "+" else -1
            value = (value + sign * product()) % 1000
        return value

    def compared():
        value = summed()
        if rest[:1] in (["="], ["<"], [">"]):
            sign = rest.pop(0)
            other = summed()
            return {"=": int(value == other), "<": int(value < other), ">": int(value > other)}[sign]
        return value

    value = compared()
    assert not rest
    return value


class Over(Exception):
    """The run ends at once."""


class Thread:
    def __init__(self, name, rank, line, later):
        self.name, self.rank, self.line, self.later = name, rank, line, later
        self.begun = self.ended = False
        self.ready = False
        self.core = None
        self.ticket = self.got = None
        self.work = None            # [line, part, what is left, since]
        self.hold = None            # (word, name, line, turn) while it waits; ("sleep", until, line, begin)
        self.given = None
        self.own = {}
        self.body = None
        self.pending = None
        self.last_line = None

    def state(self):
        if not self.begun:
            return ("later",)
        if self.ended:
            return ("end",)
        if self.core is not None:
            return ("run", self.core)
        if self.ready:
            return ("ready",)
        return ("sleep",) if self.hold[0] == "sleep" else self.hold[:2]


class PlainRun:
    """outcome, moments as [(time, [events])], outputs, states (by moments, by tasks), links."""

    def __init__(self, text, factors=None):
        self.factors = {} if factors is None else factors
        self.lines = [line.split(" ") for line in text.split("\n")]
        self.cores = [None] * int(self.lines[0][1])
        self.slice = int(self.lines[1][1])
        self.threads, self.holder, self.lent, self.room = [], {}, set(), {}
        self.queues, self.cells = {}, {}
        for at, words in enumerate(self.lines):
            self.declare(at, words)
        self.now, self.tickets, self.turns, self.count = Fraction(0), 0, 0, 0
        self.moments, self.outputs, self.outcome, self.states, self.openings = [], [], None, [], []
        self.whole()

    def declare(self, at, words):
        if words[0] == "task":
            thread = Thread(words[1], int(words[2]), at, words[-1] == "later")
            thread.body = self.block(thread, at + 1, self.stop_of(at))
            self.threads.append(thread)
        elif self.threads:
            return
        elif words[0] == "lock":
            self.holder[words[1]] = None
            self.lent |= set(words[1:2]) if words[-1] == "lent" and len(words) == 3 else set()
        elif words[0] == "queue":
            self.room[words[1]], self.queues[words[1]] = int(words[2]), []
        elif words[0] == "cell":
            self.cells[words[1]] = int(words[2])

    def stop_of(self, at):
        for to in range(at + 1, len(self.lines)):
            if self.lines[to][0] == "task":
                return to
        return len(self.lines)

    def closing(self, at):
        """The lines of the else (or None) and the end of a block."""
        depth, middle = 0, None
        for to in range(at, len(self.lines)):
            word = self.lines[to][0]
            if word in ("if", "while", "repeat"):
                depth += 1
            elif word == "else" and depth == 1:
                middle = to
            elif word == "end":
                depth -= 1
                if depth == 0:
                    return middle, to
        raise AssertionError

    def block(self, thread, low, high):
        """Yields the lines of the statements that a task takes, as it comes to them."""
        at = low
        while at < high:
            words = self.lines[at]
            if words[0] not in ("if", "while", "repeat"):
                yield at
                at += 1
                continue
            middle, end = self.closing(at)
            if words[0] == "if":
                yield at
                if thread.answer:
                    yield from self.block(thread, at + 1, end if middle is None else middle)
                elif middle is not None:
                    yield from self.block(thread, middle + 1, end)
            elif words[0] == "while":
                yield at
                while thread.answer:
                    yield from self.block(thread, at + 1, end)
                    yield at
            else:
                for _ in range(int(words[1])):
                    yield at
                    yield from self.block(thread, at + 1, end)
                yield at
            at = end + 1

    # Ranks and tickets

    def rank(self, thread, seen=()):
        """The own rank, and the ranks of all that wait, straight or over others, for a lent lock that it holds."""
        ranks = [thread.rank]
        for name in self.lent:
            if self.holder[name] is thread:
                for other in self.threads:
                    if other.state() == ("lock", name) and other not in seen:
                        ranks.append(self.rank(other, (*seen, thread)))
        return max(ranks)

    def become_ready(self, thread, ticket=True):
        thread.begun = thread.ready = True
        thread.hold = None
        if ticket:
            self.tickets += 1
            thread.ticket = self.tickets

    def best(self):
        ready = [thread for thread in self.threads if thread.ready]
        if not ready:
            return None
        top = max(self.rank(thread) for thread in ready)
        return min((thread for thread in ready if self.rank(thread) == top), key=lambda thread: thread.ticket)

    def running(self):
        return [thread for thread in self.cores if thread is not None]

    # One moment

    def tell(self, word, thread, number):
        self.moments[-1][1].append((word, thread.name, number))

    def allow(self):
        if self.count >= 200:
            self.outcome = "long"
            raise Over
        self.count += 1

    def give(self, thread, core):
        thread.ready, thread.core, thread.got = False, core, len(self.moments) - 1
        self.cores[core] = thread
        if thread.work:
            thread.work[3] = thread.got
        self.tell("run", thread, core)

    def time(self, moment):
        return self.moments[moment][0]

    def lose(self, thread):
        self.cores[thread.core], thread.core = None, None
        if thread.work:
            thread.work[2] -= self.now - self.time(thread.work[3])

    def swap(self, word, thread, best):
        core = thread.core
        self.tell(word, thread, core)
        self.lose(thread)
        self.become_ready(thread, word == "slice")
        self.give(best, core)

    def had_slice(self, thread):
        return self.slice and self.now - self.time(thread.got) >= self.slice

    def share_cores(self):
        while True:
            best = self.best()
            if best is None:
                return
            if None in self.cores:
                self.give(best, self.cores.index(None))
                continue
            rank = self.rank(best)
            low = min(self.rank(thread) for thread in self.running())
            if low < rank:
                least = [thread for thread in self.running() if self.rank(thread) == low]
                self.swap("stop", max(least, key=lambda thread: thread.ticket), best)
                continue
            worn = [thread for thread in self.running() if self.rank(thread) == rank and self.had_slice(thread)]
            if not worn:
                return
            self.allow()
            self.swap("slice", worn[0], best)

    def moment(self):
        while True:
            self.share_cores()
            idle = [thread for thread in self.running() if not thread.work]
            if not idle:
                return
            self.step(idle[0])

    def step(self, thread):
        at = thread.pending if thread.pending is not None else next(thread.body, None)
        thread.pending = None
        if at is None:
            self.tell("end", thread, thread.line)
            self.lose(thread)
            thread.ended = True
            for other in self.threads:
                if other.state() == ("task", thread.name):
                    self.go(other)
            return
        self.allow()
        self.tell("step", thread, at)
        thread.last_line = at
        words = self.lines[at]
        if len(words) > 1 and words[1] == "=":
            self.assign(thread, words[0], self.value(thread, words[2:]))
        else:
            getattr(self, "do_" + words[0])(thread, words, at)

    def value(self, thread, words):
        return worth(words, lambda name: self.cells[name] if name in self.cells else thread.own.get(name, 0))

    def assign(self, thread, name, value):
        (self.cells if name in self.cells else thread.own)[name] = value

    def go(self, thread):
        self.tell("go", thread, thread.hold[2])
        self.become_ready(thread)

    def hold(self, thread, word, name, at):
        self.turns += 1
        self.lose(thread)
        thread.hold = (word, name, at, self.turns)

    def first_of(self, word, name):
        """The one of those that wait so which is served next."""
        waiting = [thread for thread in self.threads if thread.state() == (word, name)]
        return min(waiting, key=lambda thread: (-self.rank(thread), thread.hold[3]), default=None)

    def fault(self):
        self.outcome = "fault"
        raise Over

    def do_work(self, thread, words, at):
        part = words[2] if len(words) > 2 else ""
        cost = int(words[1]) * (self.factors.get(part, 1) if part else Fraction(1))
        if cost:
            thread.work = [at, part, Fraction(cost), len(self.moments) - 1]

    def do_if(self, thread, words, at):
        thread.answer = self.value(thread, words[1:])

    do_while = do_if

    def do_repeat(self, thread, words, at):
        pass

    def do_lock(self, thread, words, at):
        holder = self.holder[words[1]]
        if holder is thread:
            self.fault()
        if holder is None:
            self.holder[words[1]] = thread
        else:
            self.hold(thread, "lock", words[1], at)

    def do_unlock(self, thread, words, at):
        if self.holder[words[1]] is not thread:
            self.fault()
        heir = self.first_of("lock", words[1])
        self.holder[words[1]] = heir
        if heir is not None:
            self.go(heir)

    def do_put(self, thread, words, at):
        value, queue = self.value(thread, words[2:]), self.queues[words[1]]
        taker = self.first_of("value", words[1])
        if taker is not None:
            self.assign(taker, self.lines[taker.hold[2]][2], value)
            self.go(taker)
        elif len(queue) < self.room[words[1]]:
            queue.append(value)
        else:
            self.hold(thread, "room", words[1], at)
            thread.given = value

    def do_take(self, thread, words, at):
        queue = self.queues[words[1]]
        if not queue:
            self.hold(thread, "value", words[1], at)
            return
        self.assign(thread, words[2], queue.pop(0))
        giver = self.first_of("room", words[1])
        if giver is not None:
            queue.append(giver.given)
            self.go(giver)

    def do_sleep(self, thread, words, at):
        self.lose(thread)
        if words[1] == "0":
            self.tell("wake", thread, at)
            self.become_ready(thread)
        else:
            thread.hold = ("sleep", self.now + int(words[1]), at, len(self.moments) - 1)

    def named(self, name):
        return [thread for thread in self.threads if thread.name == name][0]

    def do_start(self, thread, words, at):
        other = self.named(words[1])
        if other.begun:
            self.fault()
        self.become_ready(other)

    def do_wait(self, thread, words, at):
        if not self.named(words[1]).ended:
            self.hold(thread, "task", words[1], at)

    def do_say(self, thread, words, at):
        self.outputs.append((self.now, thread.name, self.value(thread, words[1:])))

    # All moments

    def works(self):
        return tuple((thread.name, thread.work[1]) if thread and thread.work else None for thread in self.cores)

    def note(self):
        self.states.append({
            "tasks": {thread.name: thread.state() for thread in self.threads},
            "works": self.works(),
            "cells": tuple(self.cells.items()),
            "queues": {name: tuple(queue) for name, queue in self.queues.items()},
            "holders": {name: holder and holder.name for name, holder in self.holder.items()},
            "own": {thread.name: dict(thread.own) for thread in self.threads},
        })

    def coming(self):
        """(time, word, thread, line, moment at which it began), those first that count first."""
        found = []
        for thread in self.threads:
            if thread.state() == ("sleep",):
                found.append((thread.hold[1], "sleep", thread, thread.hold[2], thread.hold[3]))
        for thread in self.running():
            at, _, left, since = thread.work
            found.append((self.time(since) + left, "work", thread, at, since))
        best = self.best()
        for thread in self.running():
            if self.slice and best is not None and self.rank(best) == self.rank(thread):
                found.append((self.time(thread.got) + self.slice, "slice", thread, thread.work[0], thread.got))
        return found

    def open(self, found):
        self.moments.append((self.now, []))
        for when, word, thread, at, _ in found:
            if when == self.now and word == "sleep":
                self.tell("wake", thread, at)
                self.become_ready(thread)
        for when, word, thread, at, _ in found:
            if when == self.now and word == "work":
                self.tell("over", thread, at)
                thread.work = None

    def whole(self):
        self.moments.append((self.now, []))
        self.openings.append(None)
        for thread in self.threads:
            if not thread.later:
                self.become_ready(thread)
        try:
            while True:
                self.moment()
                self.note()
                found = self.coming()
                if not found:
                    break
                self.now = min(row[0] for row in found)
                first = [row for row in found if row[0] == self.now][0]
                self.openings.append((first[1], first[2].name, first[3], first[4]))
                self.open(found)
            self.outcome = "done" if all(thread.ended for thread in self.threads if thread.begun) else "stuck"
        except Over:
            self.note()

    # What is asked of it

    def story(self):
        return self.outcome, tuple(tuple(events) for _, events in self.moments)

    def account(self, task):
        lengths = {}
        for at in range(len(self.moments) - 1):
            state = self.states[at]["tasks"][task]
            if state in (("later",), ("end",)):
                continue
            if state[0] == "run":
                state = ("work", [work[1] for work in self.states[at]["works"] if work and work[0] == task][0])
            row = state if len(state) == 2 else (state[0], "")
            lengths[row] = lengths.get(row, 0) + self.time(at + 1) - self.time(at)
        return tuple((*row, lengths[row]) for row in sorted(lengths))

    def chain(self):
        links, at = [], len(self.moments) - 1
        while at:
            word, task, line, began = self.openings[at]
            links.append((word, task, line, self.time(at) - self.time(began)))
            at = began
        return tuple(links)
