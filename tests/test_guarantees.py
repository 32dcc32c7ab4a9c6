"""Section 3, for drawn programs: what runs and curves tell, beside plain runs and beside one another."""

import random
import unittest
from fractions import Fraction

from tests.drawn import drawn_program, drawn_question, drawn_speeds
from tests.plain import PlainRun
from tests.telling import fraction, number
from whatspeed.asking import falls, greatest, least, pulls, reaches, slower, unlike, where
from whatspeed.curves import curve, shows_cell
from whatspeed.errors import TooMany
from whatspeed.runs import run

PROGRAMS = range(1200)
CURVES = range(120)


def plain_run(program, speeds):
    return PlainRun(program.text, {part: fraction(factor) for part, factor in speeds})


def drawn_curve(at):
    """A Curve; one of those with too many cells is drawn again."""
    while True:
        try:
            return curve(drawn_program(at), drawn_question(at))
        except TooMany:
            at += 1000


def within(stretch, s):
    """Whether a Fraction is in a Stretch."""
    low, high = fraction(stretch.low), fraction(stretch.high)
    return low < s < high or (s == low and stretch.has_low) or (s == high and stretch.has_high)


def places(one, dice):
    """Numbers in a cell: its ends, if they are included, just beside them, its middle, and one that is drawn."""
    low, high = fraction(one.stretch.low), fraction(one.stretch.high)
    share = Fraction(dice.randint(1, 999), 1000)
    parts = (Fraction(1, 10 ** 6), Fraction(1, 2), share, 1 - Fraction(1, 10 ** 6))
    between = [low + (high - low) * part for part in parts]
    ends = [low] * one.stretch.has_low + [high] * one.stretch.has_high
    return sorted(set(ends if low == high else ends + between))


class RunsTest(unittest.TestCase):

    def test_drawn_runs(self):
        outcomes = set()
        for at in PROGRAMS:
            program, speeds = drawn_program(at), drawn_speeds(at)
            one, plain = run(program, speeds), plain_run(program, speeds)
            outcomes.add(one.outcome)
            with self.subTest(at=at):
                self.same_moments(one, plain)
                self.same_reasons(one, plain, program)
        self.assertEqual(outcomes, {"done", "stuck", "fault", "long"})

    def same_moments(self, one, plain):
        self.assertEqual((one.outcome, tuple(events for _, events in one.moments)), plain.story())
        self.assertEqual([fraction(time) for time, _ in one.moments], [time for time, _ in plain.moments])
        self.assertEqual([(fraction(time), *rest) for time, *rest in one.outputs], plain.outputs)
        self.assertEqual(fraction(one.time), plain.moments[-1][0])
        for (time, _), told in zip(one.moments, plain.states):
            state = one.state(time)
            self.assertEqual({task: state[task] for task in told["tasks"]}, told["tasks"])
            self.assertEqual(state.cells, told["cells"])
            self.assertEqual({name: state.queue(name) for name in told["queues"]}, told["queues"])
            self.assertEqual({name: state.holder(name) for name in told["holders"]}, told["holders"])
            for task, own in told["own"].items():
                self.assertEqual([state.variable(task, name) for name in "xy"], [own.get(name, 0) for name in "xy"])

    def same_reasons(self, one, plain, program):
        chain = tuple((word, task, line, fraction(length)) for word, task, line, length in one.chain())
        self.assertEqual(chain, plain.chain())
        self.assertEqual(sum(length for _, _, _, length in chain), fraction(one.time))
        ends = {event[1]: one.time_of(at) for at, event in enumerate(one.events) if event[0] == "end"}
        first = run(program, ()).state(number(0))
        for task in program.tasks:
            account = tuple((word, name, fraction(length)) for word, name, length in one.account(task))
            self.assertEqual(account, plain.account(task))
            if first[task] != ("later",):
                end = fraction(ends.get(task, one.time))
                self.assertEqual(sum(length for _, _, length in account), end)
        samples = [(fraction(time), works) for time, works in one.samples(number("3/2"))]
        self.assertEqual(samples, [(time, self.works_at(plain, time)) for time, _ in samples])
        self.assertEqual(len(samples), fraction(one.time) // Fraction(3, 2) + 1)

    def works_at(self, plain, time):
        return [state["works"] for (when, _), state in zip(plain.moments, plain.states) if when <= time][-1]


class CurvesTest(unittest.TestCase):

    def test_drawn_curves(self):
        many = 0
        for at in CURVES:
            one = drawn_curve(at)
            many += len(one)
            with self.subTest(at=at):
                self.no_piece_too_many(one)
                self.every_speed(one, random.Random(at))
                self.sums(one)
        self.assertGreater(many, 2 * len(CURVES))

    def no_piece_too_many(self, one):
        """The cells reach from 0 to 1 without a gap, and no two neighbours have the same story."""
        first, last = one.cells[0].stretch, one.cells[-1].stretch
        self.assertEqual([fraction(first.low), first.has_low, fraction(last.high), last.has_high], [0, True, 1, True])
        for cell, follower in zip(one.cells, one.cells[1:]):
            self.assertEqual(cell.stretch.high, follower.stretch.low)
            self.assertNotEqual(cell.stretch.has_high, follower.stretch.has_low)
            stories = [(each.outcome, [events for _, events in each.moments]) for each in (cell, follower)]
            self.assertNotEqual(*stories)

    def every_speed(self, one, dice):
        for cell in one.cells[:20]:
            for s in places(cell, dice):
                plain = plain_run(one.program, one.speeds(number(s)))
                self.same_at(cell, plain, s)
                self.assertEqual(fraction(one(number(s))), plain.moments[-1][0])
                self.assertIs(one[number(s)], cell)

    def same_at(self, cell, plain, s):
        def worth(line):
            return fraction(line.base) + fraction(line.slope) * s

        self.assertEqual((cell.outcome, tuple(events for _, events in cell.moments)), plain.story())
        self.assertEqual([worth(line) for line, _ in cell.moments], [time for time, _ in plain.moments])
        self.assertEqual([(worth(line), *rest) for line, *rest in cell.outputs], plain.outputs)
        chain = tuple((word, task, line, worth(length)) for word, task, line, length in cell.chain())
        self.assertEqual(chain, plain.chain())
        for thread in plain.threads:
            account = tuple((word, name, worth(length)) for word, name, length in cell.account(thread.name))
            self.assertEqual(tuple(row for row in account if row[2]), plain.account(thread.name))

    def sums(self, one):
        for cell in one.cells:
            lengths = [length for _, _, _, length in cell.chain()]
            self.assertEqual(sum(fraction(length.base) for length in lengths), fraction(cell.time.base))
            self.assertEqual(sum(fraction(length.slope) for length in lengths), fraction(cell.time.slope))
            self.assertEqual(sum(fraction(slope) for _, slope in cell.shares()), fraction(cell.time.slope))
            self.assertEqual([part for part, _ in cell.shares()], [part for part, _, _ in one.question] + [""])
            if cell.stretch.low == cell.stretch.high:
                self.assertEqual({fraction(line.slope) for line, _ in cell.moments}, {0})

    def test_drawn_cells_are_shown(self):
        for at in range(0, 120, 4):
            one = drawn_curve(at)
            rows = one.rows()
            for row in rows[:6]:
                self.assertIs(shows_cell(one.program, one.question, row), True)
                self.assertIs(shows_cell(one.program, one.question, (row[0], not row[1], *row[2:])), False)
                other = (*row[:4], (row[4][0] + 1, row[4][1]), *row[5:])
                self.assertIs(shows_cell(one.program, one.question, other), False)
            for row, follower in zip(rows[:6], rows[1:7]):
                joined = (*row[:2], *follower[2:4], *row[4:])
                self.assertIs(shows_cell(one.program, one.question, joined), False)


class QuestionsTest(unittest.TestCase):

    def looked_at(self, one, other=None):
        """Fractions at, beside and between all borders of one or two curves."""
        borders = sorted({fraction(s) for each in (one, other or one) for s in each.borders()})
        middles = [(low + high) / 2 for low, high in zip(borders, borders[1:])]
        return borders + middles + [Fraction(at, 37) for at in range(38)]

    def alike(self, stretches, places, test):
        """Checks that Stretches, which are ascending and not joined, have exactly the places for which it is so."""
        for stretch, follower in zip(stretches, stretches[1:]):
            low, high = fraction(stretch.high), fraction(follower.low)
            self.assertTrue(low < high or (low == high and not stretch.has_high and not follower.has_low))
        ends = [fraction(end) for stretch in stretches for end in (stretch.low, stretch.high)]
        beside = [end + side * Fraction(1, 10 ** 7) for end in ends for side in (-1, 0, 1)]
        for s in [*places, *[s for s in beside if 0 <= s <= 1]]:
            self.assertEqual(any(within(stretch, s) for stretch in stretches), test(s), s)

    def test_reaches_where_least_and_greatest(self):
        for at in CURVES:
            one = drawn_curve(at)

            def time(s, one=one):
                return fraction(one(number(s)))

            def is_done(s, one=one):
                return one[number(s)].outcome == "done"

            places = self.looked_at(one)
            limit = time(Fraction(at % 7, 7))
            for bound in (limit, limit - Fraction(1, 3)):
                self.alike(reaches(one, number(bound)), places, lambda s: is_done(s) and time(s) <= bound)
            self.alike(where(one, lambda cell: len(cell.events) % 3), places,
                       lambda s, one=one: len(one[number(s)].events) % 3 > 0)
            low, high = least(one), greatest(one)
            done = [time(s) for s in places if is_done(s)]
            self.assertEqual([low is None, high is None], [not done, not done])
            if done:
                self.assertTrue(fraction(low[0]) <= min(done) and max(done) <= fraction(high[0]))
                for bound, stretch in (low, high):
                    met = [s for s in places if is_done(s) and time(s) == fraction(bound)]
                    self.assertEqual(bool(met) and stretch is None, False)
                    if stretch is not None:
                        self.assertEqual(time(fraction(stretch.middle)), fraction(bound))
                        self.assertTrue(all(s >= fraction(stretch.low) for s in met))

    def test_falls(self):
        found = 0
        for at in range(300):
            one = drawn_curve(at)
            pair = falls(one)
            if pair is None:
                times = [fraction(one(number(s))) for s in sorted(self.looked_at(one))]
                self.assertEqual(times, sorted(times))
            else:
                s, t = pair
                self.assertTrue(s.is_less(t))
                self.assertTrue(run(one.program, one.speeds(t)).time.is_less(run(one.program, one.speeds(s)).time))
                found += 1
        self.assertTrue(20 < found < 280)

    def test_unlike_and_slower(self):
        differ = 0
        for at in CURVES:
            one = drawn_curve(at)
            try:
                other = curve(one.program, drawn_question(at + 5000))
            except TooMany:
                continue
            if at % 3 == 0:
                other = drawn_curve(at + 400)

            def results(each, s):
                cell = each[number(s)]
                return cell.outcome, [rest for _, *rest in cell.outputs]

            def is_slower(s):
                cells = [each[number(s)] for each in (one, other)]
                return all(cell.outcome == "done" for cell in cells) and one(number(s)).is_less(other(number(s)))

            places = self.looked_at(one, other)
            self.alike(unlike(one, other), places, lambda s: results(one, s) != results(other, s))
            self.alike(slower(one, other), places, is_slower)
            differ += unlike(one, other) != ()
        self.assertGreater(differ, 20)

    def test_pulls(self):
        little = Fraction(1, 10 ** 12)
        for at in CURVES:
            program, speeds = drawn_program(at), drawn_speeds(at)
            factors = {part: Fraction(1) for part in program.parts} | {part: fraction(f) for part, f in speeds}
            time = PlainRun(program.text, factors).moments[-1][0]
            found = pulls(program, speeds)
            self.assertEqual([part for part, _, _ in found], list(program.parts))
            for part, *sides in found:
                for side, told in zip((-1, 1), sides):
                    self.assertEqual(told is None, factors[part] == (0 if side < 0 else 9))
                    for step in (side * little, side * little * 2) if told else ():
                        changed = factors | {part: factors[part] + step}
                        slope, gap = [fraction(value) for value in told]
                        self.assertEqual(PlainRun(program.text, changed).moments[-1][0], time + gap + slope * step)
