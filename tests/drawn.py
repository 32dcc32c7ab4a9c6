"""Programs and questions that are drawn; the same number draws the same ones."""

import random

from whatspeed.errors import SpeedError
from whatspeed.exact import Number
from whatspeed.programs import Program

LOCKS = ("a", "b")
QUEUES = ("pipe", "tube")
CELLS = ("mine", "ours")
PARTS = ("dig", "haul", "pave")
TASKS = ("one", "two", "tri", "four", "five", "six")
FACTORS = [(0, 1), (1, 1), (9, 1), (1, 2), (3, 2), (2, 1), (5, 3), (7, 4), (1, 9)]


class Drawer:
    """Draws the lines of a program."""

    def __init__(self, number):
        self.dice = random.Random(number)
        self.tasks = TASKS[:self.dice.choice([1, 2, 3, 3, 4, 4, 5, 6])]
        self.later = [task for task in self.tasks[1:] if self.dice.random() < 0.2]
        # Most programs are drawn so that they rarely end in a fault.
        self.tidy = self.dice.random() < 0.8
        self.unstarted = list(self.later)
        self.task = ""

    def text(self):
        dice = self.dice
        lines = [f"cores {dice.choice([1, 1, 2, 2, 3])}", f"slice {dice.choice([0, 0, 1, 2, 3, 5])}"]
        lines += [f"lock {name}" + dice.choice(["", " lent"]) for name in LOCKS]
        lines += [f"queue {name} {dice.randint(1, 2)}" for name in QUEUES]
        lines += [f"cell {name} {dice.randint(0, 3)}" for name in CELLS]
        lines += [f"part {name}" for name in PARTS]
        equal = dice.random() < 0.4
        for task in self.tasks:
            rank = 1 if equal else dice.randint(1, 3)
            lines.append(f"task {task} {rank}" + (" later" if task in self.later else ""))
            self.task = task
            lines += self.rows(dice.randint(1, 5), 0, LOCKS)
        return "\n".join(lines)

    def rows(self, many, depth, locks):
        rows = []
        for _ in range(many):
            rows += self.statement(depth, locks)
        return rows

    def value(self):
        dice = self.dice
        name = dice.choice(["x", "y", "mine", "ours", str(dice.randint(0, 4))])
        return dice.choice([name, f"{name} + 1", f"{name} - x", f"{name} < 2", f"( {name} = y ) * 3", f"2 > {name}"])

    def work(self):
        dice = self.dice
        part = dice.choice(["", " dig", " haul", " pave", " dig"])
        return [f"work {dice.choice([0, 1, 1, 2, 2, 3, 4, 5, 7])}{part}"]

    def statement(self, depth, locks):
        dice = self.dice
        kinds = ["work"] * 6 + ["lock"] * 5 + ["put"] * 2 + ["take"] * 2 + ["sleep"] * 3
        kinds += ["set", "say", "start", "wait"]
        if depth < 2:
            kinds += ["if", "while", "repeat"]
        kind = dice.choice(kinds)
        if kind == "lock":
            return self.locked(depth, locks)
        if kind in ("if", "while", "repeat"):
            return self.block(kind, depth, locks)
        if kind == "put":
            return [f"put {dice.choice(QUEUES)} {self.value()}"]
        if kind == "take":
            return [f"take {dice.choice(QUEUES)} {dice.choice(['x', 'y', 'mine'])}"]
        if kind == "sleep":
            return [f"sleep {dice.choice([0, 1, 1, 2, 3, 5])}"]
        if kind == "set":
            return [f"{dice.choice(['x', 'y', 'mine', 'ours'])} = {self.value()}"]
        if kind == "say":
            return [f"say {self.value()}"]
        if kind == "start":
            return self.start()
        if kind == "wait":
            others = self.tasks[self.tasks.index(self.task) + 1:] if self.tidy else self.tasks
            return [f"wait {dice.choice(others)}"] if others else self.work()
        return self.work()

    def locked(self, depth, locks):
        dice = self.dice
        if not self.tidy and dice.random() < 0.3:
            return [dice.choice(["lock", "unlock"]) + " " + dice.choice(LOCKS)]
        if not locks:
            return self.work()
        name = dice.choice(locks)
        # A tidy task gets its locks in one sequence.
        inner = locks[locks.index(name) + 1:] if self.tidy else LOCKS
        return [f"lock {name}", *self.rows(dice.randint(0, 2), depth + 1, inner), *self.work(), f"unlock {name}"]

    def start(self):
        if self.tidy and self.unstarted and self.task not in self.later:
            return [f"start {self.unstarted.pop()}"]
        return [f"start {self.dice.choice(self.later)}"] if self.later and not self.tidy else self.work()

    def block(self, kind, depth, locks):
        dice = self.dice
        inside = self.rows(dice.randint(0, 2), depth + 1, locks)
        if kind == "if":
            other = dice.choice([[], ["else", *self.rows(1, depth + 1, locks)]])
            return [f"if {self.value()}", *inside, *other, "end"]
        if kind == "while":
            return [f"while {dice.choice(['x < 2', 'mine < 3', 'y < 1'])}", *inside, self.grown(), "end"]
        return [f"repeat {dice.randint(0, 4)}", *inside, "end"]

    def grown(self):
        return self.dice.choice(["x = x + 1", "mine = mine + 1", "y = y + 1"])


def drawn_program(number):
    """A Program; texts that are none are drawn again."""
    at = number * 1000
    while True:
        try:
            return Program(Drawer(at).text())
        except SpeedError:
            at += 1


def drawn_factor(dice):
    top, bottom = dice.choice(FACTORS)
    return Number(top, bottom)


def drawn_speeds(number):
    """Speeds for a drawn program."""
    dice = random.Random(number)
    return tuple((part, drawn_factor(dice)) for part in PARTS if dice.random() < 0.6)


def drawn_question(number):
    """A question for a drawn program."""
    dice = random.Random(number)
    return tuple((part, drawn_factor(dice), drawn_factor(dice)) for part in PARTS if dice.random() < 0.7)
