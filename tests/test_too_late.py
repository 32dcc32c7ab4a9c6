"""Section 10: too_late and shows_too_late."""

from fractions import Fraction

from tests.choosing import (
    CLIFF, IDLE_GATE, LINED, PEAK, TRAP, Choosing, ends_in_time, is_late, places_of, plain_choices, price_of,
    run_behind,
)
from tests.helpers import any_values
from tests.telling import GATE, CurveCase, amount, changed, fraction, number, offers, program, question
from whatspeed.choices import choice, shows_too_late, too_late
from whatspeed.curves import curve
from whatspeed.exact import Number
from whatspeed.runs import run

ROWS = ("dig 0 5", "dig 1/2 2", "haul 0 4", "haul 1/2 3")


def replaced(row, at, item):
    return (*row[:at], item, *row[at + 1:])


class TooLateCase(CurveCase):

    def tells(self, rows, offered, limit, price, **pairs):
        """What too_late tells, as texts `CHOICE: OUTCOME TIME`, checked beside plain runs."""
        one, given, asked = program(*rows), offers(*offered), question(**pairs)
        return self.tells_all(one, given, number(limit), price, asked)

    def tells_all(self, one, given, limit, price, asked):
        found = too_late(one, given, limit, price, question=asked)
        expected = [chosen for chosen in plain_choices(given) if price_of(chosen) <= price]
        self.assertIs(shows_too_late(one, given, limit, price, found, question=asked), found is not None)
        if found is None:
            self.assertTrue(any(ends_in_time(one, chosen, limit, asked) for chosen in expected))
            return None
        self.assertIs(type(found), tuple)
        self.assertEqual([row[0] for row in found], expected)
        told = []
        for row in found:
            self.assertEqual([type(item) for item in row], [tuple, Number, str, Number])
            chosen, s, outcome, time = row
            self.assertTrue(0 <= fraction(s) <= 1)
            self.assertTrue(is_late(one, chosen, limit, asked, fraction(s)))
            self.assertEqual((outcome, fraction(time)), run_behind(one, chosen, asked, fraction(s)))
            names = " ".join(f"{part} {amount(factor)} {worth}" for part, factor, worth in chosen)
            told.append(f"{names}: {outcome} {amount(time)}")
        return told


class TooLateTest(TooLateCase):

    def test_none(self):
        for limit, price in [(13, 0), (11, 2), (11, 3), (9, 4), (5, 6), (3, 9), (3, 99)]:
            self.assertIsNone(self.tells(LINED, ROWS, limit, price))

    def test_all_of_at_most_the_price(self):
        self.assertEqual(self.tells(LINED, ROWS, 12, 0), [": done 13"])
        self.assertEqual(self.tells(LINED, ROWS, 12, 1), [": done 13"])
        self.assertEqual(self.tells(LINED, ROWS, 10, 2), [": done 13", "dig 1/2 2: done 11"])
        self.assertEqual(self.tells(LINED, ROWS, 9, 3), [": done 13", "dig 1/2 2: done 11", "haul 1/2 3: done 10"])
        self.assertEqual(self.tells(LINED, ROWS, 4, 8), [
            ": done 13", "dig 1/2 2: done 11", "haul 1/2 3: done 10", "haul 0 4: done 7", "dig 0 5: done 9",
            "dig 1/2 2 haul 1/2 3: done 8", "dig 1/2 2 haul 0 4: done 5", "dig 0 5 haul 1/2 3: done 6",
        ])

    def test_far_beyond_all_prices(self):
        for price in (9, 10, 99, 10 ** 30):
            self.assertEqual(len(self.tells(LINED, ROWS, 2, price)), 9)
            self.assertIsNone(self.tells(LINED, ROWS, 3, price))

    def test_sequence_of_one_price(self):
        self.assertEqual(self.tells(LINED, ["dig 1/3 5", "dig 1/2 5", "haul 2/5 5", "haul 1/2 5"], 1, 5), [
            ": done 13", "dig 1/3 5: done 31/3", "dig 1/2 5: done 11", "haul 2/5 5: done 47/5", "haul 1/2 5: done 10",
        ])
        self.assertEqual(self.tells(LINED, ["dig 0 5", "dig 3/4 2", "haul 1/2 3"], 1, 5), [
            ": done 13", "dig 3/4 2: done 12", "haul 1/2 3: done 10", "dig 0 5: done 9",
            "dig 3/4 2 haul 1/2 3: done 9",
        ])
        self.assertEqual(self.tells(LINED, ["dig 1/2 2", "dig 1/2 5", "haul 1/2 3"], 1, 5), [
            ": done 13", "dig 1/2 2: done 11", "haul 1/2 3: done 10", "dig 1/2 2 haul 1/2 3: done 8",
            "dig 1/2 5: done 11",
        ])

    def test_one_part_once(self):
        self.assertEqual(self.tells(LINED, ["dig 1/2 1", "dig 1/2 2", "dig 3/4 1"], 1, 99), [
            ": done 13", "dig 1/2 1: done 11", "dig 3/4 1: done 12", "dig 1/2 2: done 11",
        ])

    def test_other_outcomes(self):
        self.assertEqual(self.tells(TRAP, ["dig 2/3 1", "haul 0 2"], 99, 3), [
            ": stuck 2", "dig 2/3 1: stuck 4/3", "haul 0 2: stuck 2", "dig 2/3 1 haul 0 2: stuck 4/3",
        ])

    def test_where_more_is_late(self):
        self.assertEqual(self.tells(CLIFF, ["dig 1/2 1", "haul 1/3 5"], 3, 6), [
            ": done 9", "dig 1/2 1: done 22", "haul 1/3 5: done 4", "dig 1/2 1 haul 1/3 5: done 22",
        ])
        self.assertIsNone(self.tells(CLIFF, ["dig 1/2 1", "haul 1/3 5"], 4, 6))

    def test_questions(self):
        self.assertEqual(len(self.tells(LINED, ["dig 0 5", "dig 1/2 2"], 15, 4, haul=(2, 0))), 2)
        self.assertIsNone(self.tells(LINED, ["dig 0 5", "dig 1/2 2"], 15, 5, haul=(2, 0)))
        self.assertEqual(len(self.tells(LINED, ["dig 0 5", "dig 1/2 2"], "14999/1000", 5, haul=(2, 0))), 3)
        self.assertEqual(len(self.tells(IDLE_GATE, ["idle 0 1"], 76, 1, fetch=(0, 2))), 2)
        self.assertIsNone(self.tells(IDLE_GATE, ["idle 0 1"], 77, 0, fetch=(0, 2)))
        # At 1/2 alone, where dig is 1.
        self.assertEqual(self.tells(PEAK, ["haul 1/3 1"], 4, 1, dig=(0, 2)), [": done 11", "haul 1/3 1: done 5"])

    def test_as_choice_tells(self):
        for limit in range(14):
            found = choice(program(*LINED), offers(*ROWS), number(limit))
            for price in range(10):
                is_none = too_late(program(*LINED), offers(*ROWS), number(limit), price) is None
                self.assertEqual(is_none, found is not None and found[0] <= price)

    def test_by_name(self):
        one, given, limit = program(*LINED), offers(*ROWS), number(10)
        found = too_late(one, given, limit, 2)
        self.assertEqual(too_late(price=2, limit=limit, offers=given, program=one, question=()), found)
        self.assertIs(shows_too_late(value=found, price=2, limit=limit, offers=given, program=one), True)
        self.assertEqual(choice(limit=limit, offers=given, program=one), choice(one, given, limit))

    def test_drawn(self):
        many = 0
        for at in range(100):
            one = Choosing(at, at % 4 == 0)
            for price in (0, 3, 99):
                with self.subTest(at=at, price=price):
                    found = self.tells_all(one.program, one.offers, one.limit, price, one.asked)
                    many += found is not None and len(found) > 1
        self.assertGreater(many, 20)


class ShowsTest(TooLateCase):

    def shows(self, value, rows, offered, limit, price, **pairs):
        one, given, asked = program(*rows), offers(*offered), question(**pairs)
        return shows_too_late(one, given, number(limit), price, value, question=asked)

    def test_every_other_s(self):
        one, given, asked = program(*LINED), offers("dig 0 5", "dig 1/2 2"), question(haul=(2, 0))
        limit = number(14)
        found = too_late(one, given, limit, 5, question=asked)
        self.assertEqual(len(found), 3)
        for at, row in enumerate(found):
            for top in range(-3, 31):
                s = Fraction(top, 28)
                if 0 <= s <= 1:
                    outcome, time = run_behind(one, row[0], asked, s)
                    other = (row[0], number(s), outcome, number(time))
                    is_so = time > 14
                else:
                    other, is_so = replaced(row, 1, number(s)), False
                value = replaced(found, at, other)
                self.assertIs(shows_too_late(one, given, limit, 5, value, question=asked), is_so)

    def test_every_s_where_nothing_depends_on_it(self):
        one, given = program(*LINED), offers("dig 1/2 2")
        found = too_late(one, given, number(10), 2)
        for s in [Fraction(0), Fraction(1), Fraction(1, 2), Fraction(3, 7), Fraction(1, 10 ** 30)]:
            value = tuple(replaced(row, 1, number(s)) for row in found)
            self.assertIs(shows_too_late(one, given, number(10), 2, value), True)
        for s in [Fraction(-1, 10 ** 30), 1 + Fraction(1, 10 ** 30), Fraction(2), Fraction(-1)]:
            value = tuple(replaced(row, 1, number(s)) for row in found)
            self.assertIs(shows_too_late(one, given, number(10), 2, value), False)

    def test_an_s_at_which_it_ends_in_time(self):
        # In time up to 3/4 and late behind.
        one, given, asked = program(*LINED), offers("dig 9 1"), question(haul=(1, 2))
        for s, is_so in [(0, False), ("1/2", False), ("3/4", False), ("751/1000", True), (1, True)]:
            time = run(one, curve(one, asked).speeds(number(s))).time
            value = (((), number(s), "done", time),)
            self.assertIs(shows_too_late(one, given, number("35/2"), 0, value, question=asked), is_so)

    def test_stuck_however_early(self):
        one, given = program(*TRAP), offers("dig 2/3 1")
        value = (((), Number(0), "stuck", Number(2)), (given, Number(1), "stuck", number("4/3")))
        self.assertIs(shows_too_late(one, given, number(99), 1, value), True)
        for wrong in [
            replaced(value, 0, replaced(value[0], 2, "done")), replaced(value, 0, replaced(value[0], 3, Number(3))),
            replaced(value, 1, replaced(value[1], 2, "long")), replaced(value, 1, replaced(value[1], 3, Number(2))),
        ]:
            self.assertIs(shows_too_late(one, given, number(99), 1, wrong), False)

    def test_none_of_what_is_changed(self):
        for rows, offered, limit, price, pairs in [
            (LINED, ROWS, 9, 3, {}), (LINED, ROWS, 9, 0, {}), (TRAP, ("dig 2/3 1", "haul 0 2"), 99, 3, {}),
            (LINED, ("dig 0 5", "dig 1/2 2"), 14, 5, {"haul": (2, 1)}), (GATE, ("fetch 0 1",), 60, 1, {}),
        ]:
            one, given, asked = program(*rows), offers(*offered), question(**pairs)
            found = too_late(one, given, number(limit), price, question=asked)
            self.assertIs(self.shows(found, rows, offered, limit, price, **pairs), True)
            for value in changed(found):
                self.assertIs(self.shows(value, rows, offered, limit, price, **pairs), False, value)

    def test_rows_left_out_doubled_and_exchanged(self):
        found = too_late(program(*LINED), offers(*ROWS), number(4), 5)
        many = len(found)
        self.assertEqual(many, 6)
        wrong = [found[:at] + found[at + 1:] for at in range(many)]
        wrong += [found[:at] + found[at:at + 1] + found[at:] for at in range(many)]
        wrong += [found[:at] + found[at + 1:at + 2] + found[at:at + 1] + found[at + 2:] for at in range(many - 1)]
        wrong += [found[::-1], found + found, (), found[:1] * many]
        for value in wrong:
            self.assertIs(self.shows(value, LINED, ROWS, 4, 5), False)
        # Each of these is so, but for another price.
        self.assertIs(self.shows(found, LINED, ROWS, 4, 4), False)
        self.assertIs(self.shows(found[:5], LINED, ROWS, 4, 4), False)
        self.assertIs(self.shows(found[:4], LINED, ROWS, 4, 4), True)
        self.assertIs(self.shows(found, LINED, ROWS, 4, 6), False)

    def test_other_choices(self):
        found = too_late(program(*LINED), offers(*ROWS), number(4), 2)
        for chosen in [
            (), offers("dig 0 5"), offers("haul 1/2 2"), offers("dig 1/2 3"), offers("dig 1/3 2"),
            offers("dig 1/2 2", "haul 1/2 3"), offers("dig 1/2 2")[0], list(offers("dig 1/2 2")), (1,), None,
            (list(offers("dig 1/2 2")[0]),), (("dig", Fraction(1, 2), 2),), (("dig", (1, 2), 2),),
        ]:
            value = (found[0], replaced(found[1], 0, chosen))
            self.assertIs(self.shows(value, LINED, ROWS, 4, 2), False)

    def test_a_price_of_one_is_not_true(self):
        given = offers("dig 1/2 1")
        found = too_late(program(*LINED), given, number(4), 1)
        self.assertIs(shows_too_late(program(*LINED), given, number(4), 1, found), True)
        value = (found[0], replaced(found[1], 0, (("dig", number("1/2"), True),)))
        self.assertIs(shows_too_late(program(*LINED), given, number(4), 1, value), False)

    def test_nothing_is_so_if_one_ends_in_time(self):
        for limit, price in [(13, 0), (11, 2), (3, 99)]:
            given = offers(*ROWS)
            claims = tuple(
                (chosen, Number(0), "done", number(run_behind(program(*LINED), chosen, (), 0)[1]))
                for chosen in plain_choices(given) if price_of(chosen) <= price
            )
            late = tuple(row for row in claims if number(limit).is_less(row[3]))
            for value in (None, (), claims, late, claims[:1], False):
                self.assertIs(self.shows(value, LINED, ROWS, limit, price), False)

    def test_values_of_every_kind(self):
        one, given, limit = program(*LINED), offers(*ROWS), number(9)
        found = too_late(one, given, limit, 3)
        others = [list(found), found[2], (found,), dict(enumerate(found)), curve(one, ()), run(one), one, given]
        for value in any_values() + others:
            with self.subTest(value=value):
                self.assertIs(shows_too_late(one, given, limit, 3, value), False)
                for at in range(2):
                    self.assertIs(shows_too_late(one, given, limit, 3, replaced(found, at, value)), False)
                for at in range(4):
                    # Any Number from 0 to 1 is a good s here.
                    is_s = at == 1 and isinstance(value, Number) and fraction(value) in (0, 1)
                    row = replaced(found[2], at, value)
                    self.assertIs(shows_too_late(one, given, limit, 3, replaced(found, 2, row)), is_s)

    def test_values_stay_as_they_were(self):
        one, given, asked = program(*LINED), offers("dig 0 5"), question(haul=(2, 0))
        found = too_late(one, given, number(14), 0, question=asked)
        value = [list(row) for row in found]
        before = [list(row) for row in value]
        shows_too_late(one, given, number(14), 0, value, question=asked)
        self.assertEqual(value, before)
        self.assertEqual([given, asked], [offers("dig 0 5"), question(haul=(2, 0))])
        self.assertEqual(found, too_late(one, given, number(14), 0, question=asked))

    def test_drawn(self):
        for at in range(0, 60, 2):
            one = Choosing(at, at % 4 == 0)
            found = too_late(one.program, one.offers, one.limit, 3, question=one.asked)
            if found is None:
                continue
            for index, (chosen, *_) in enumerate(found):
                for s in places_of(one.program, chosen, one.asked)[:8]:
                    outcome, time = run_behind(one.program, chosen, one.asked, s)
                    value = replaced(found, index, (chosen, number(s), outcome, number(time)))
                    is_so = is_late(one.program, chosen, one.limit, one.asked, s)
                    shown = shows_too_late(one.program, one.offers, one.limit, 3, value, question=one.asked)
                    self.assertIs(shown, is_so)
