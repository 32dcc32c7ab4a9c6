"""Programs to choose for, and a second way to look at choices: each of them is run in the plain way at many s."""

import itertools
import random
from fractions import Fraction

from tests.drawn import PARTS, drawn_factor, drawn_program
from tests.plain import PlainRun
from tests.telling import GATE, fraction, number
from whatspeed.curves import curve
from whatspeed.errors import TooMany

# One after the other: 4 dig, 6 haul and 3 more ticks.
LINED = ["part dig", "part haul", "task one 1; work 4 dig; work 6 haul; work 3"]
# Stuck unless the work of one is over by 1.
TRAP = [
    "cores 2", "cell heap 0", "part dig", "part haul", "task one 1; work 2 dig; if heap; wait one; end; work 4 haul",
    "task two 1; sleep 1; heap = 1",
]
# Late if the work of one is over by 3.
CLIFF = [
    "cores 3", "cell heap 0", "part dig", "part haul", "task one 1; work 4 dig; if heap = 0; work 20; end",
    "task two 1; sleep 3; heap = 1", "task tri 1; work 9 haul",
]
IDLE_GATE = [*GATE[:2], "part idle", *GATE[2:]]
# two is late where it takes its step between those of one and tri: where dig is 1.
PEAK = [
    "cores 3", "cell a 0", "cell b 0", "part dig", "part haul", "task one 1; work 2 dig; a = 1",
    "task two 1; work 2; if a - b; work 9 haul; end", "task tri 1; work 2 dig; b = 1",
]


def plain_row(offer):
    """An offer as Python compares it."""
    part, factor, price = offer
    return part, fraction(factor), price


def price_of(chosen):
    return sum(price for _, _, price in chosen)


def plain_choices(rows):
    """All choices of offers, the cheapest first, of several the least tuple first."""
    many = range(len(rows) + 1)
    found = [chosen for length in many for chosen in itertools.combinations(rows, length)]
    found = [chosen for chosen in found if len({part for part, _, _ in chosen}) == len(chosen)]
    return sorted(found, key=lambda chosen: (price_of(chosen), [plain_row(offer) for offer in chosen]))


def asked_behind(chosen, asked):
    """The question that a choice and a question make."""
    return tuple(sorted([(part, factor, factor) for part, factor, _ in chosen] + list(asked), key=lambda row: row[0]))


def run_behind(program, chosen, asked, s):
    """(outcome, time) of the plain run at a Fraction s."""
    factors = {part: fraction(factor) for part, factor, _ in chosen}
    factors |= {part: fraction(start) + (fraction(goal) - fraction(start)) * s for part, start, goal in asked}
    plain = PlainRun(program.text, factors)
    return plain.story()[0], plain.moments[-1][0]


def places_of(program, chosen, asked):
    """Fractions at, beside and between all borders of what a choice and a question make."""
    if not asked:
        return [Fraction(0), Fraction(1, 3)]
    borders = [fraction(s) for s in curve(program, asked_behind(chosen, asked)).borders()]
    middles = [(low + high) / 2 for low, high in zip(borders, borders[1:])]
    beside = [s + side * Fraction(1, 10 ** 7) for s in borders for side in (-1, 1)]
    return sorted({s for s in borders + middles + beside if 0 <= s <= 1})


def is_late(program, chosen, limit, asked, s):
    outcome, time = run_behind(program, chosen, asked, s)
    return outcome != "done" or time > fraction(limit)


def ends_in_time(program, chosen, limit, asked=()):
    return not any(is_late(program, chosen, limit, asked, s) for s in places_of(program, chosen, asked))


class Choosing:
    """A program, offers, a question and a limit that are drawn; the same number draws the same ones."""

    def __init__(self, at, is_asked):
        dice = random.Random(at)
        offered = dice.sample(PARTS, 2) if is_asked else list(PARTS)
        others = [part for part in PARTS if part not in offered]
        self.asked = tuple((part, drawn_factor(dice), drawn_factor(dice)) for part in others)
        rows = {}
        for _ in range(dice.randint(1, 4 if is_asked else 6)):
            offer = (dice.choice(offered), drawn_factor(dice), dice.randint(1, 4))
            rows[plain_row(offer)] = offer
        self.offers = tuple(rows[row] for row in sorted(rows))
        self.program = self.drawn(at)
        # A limit that one of the choices just meets, somewhere; or one that is a little less.
        place = Fraction(dice.randint(0, 2), 2) if is_asked else 0
        ends = [run_behind(self.program, chosen, self.asked, place) for chosen in plain_choices(self.offers)]
        times = sorted({time for outcome, time in ends if outcome == "done"})
        little = Fraction(dice.choice([0, 0, 0, 1]), 100)
        self.limit = number(dice.choice(times[:len(times) // 2 + 1]) - little)

    def drawn(self, at):
        """A program for which no choice has too many cells, and which ends without offers."""
        while True:
            program = drawn_program(at)
            try:
                for chosen in plain_choices(self.offers):
                    curve(program, asked_behind(chosen, self.asked))
            except TooMany:
                at += 1000
                continue
            if run_behind(program, (), self.asked, 0)[0] == "done":
                return program
            at += 1000
