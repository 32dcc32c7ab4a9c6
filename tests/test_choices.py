"""Section 10: choice."""

from tests.choosing import (
    CLIFF, IDLE_GATE, LINED, PEAK, TRAP, Choosing, ends_in_time, plain_choices, plain_row, price_of,
)
from tests.telling import GATE, CurveCase, number, offers, program, question
from whatspeed.choices import choice


class ChoiceTest(CurveCase):

    def chooses(self, rows, offered, limit, price, chosen, **pairs):
        """Checks what is chosen; chosen has the rows as texts."""
        one, given, asked = program(*rows), offers(*offered), question(**pairs)
        found = choice(one, given, number(limit), question=asked)
        self.assertEqual(found, (price, offers(*chosen)))
        self.assertEqual([type(found), type(found[0]), type(found[1])], [tuple, int, tuple])
        for cheaper in plain_choices(given):
            is_in_time = ends_in_time(one, cheaper, number(limit), asked)
            if cheaper == found[1]:
                self.assertTrue(is_in_time)
                break
            self.assertFalse(is_in_time)

    def chooses_none(self, rows, offered, limit, **pairs):
        one, given, asked = program(*rows), offers(*offered), question(**pairs)
        self.assertIsNone(choice(one, given, number(limit), question=asked))
        for chosen in plain_choices(given):
            self.assertFalse(ends_in_time(one, chosen, number(limit), asked))

    def test_least_price(self):
        rows = ("dig 0 5", "dig 1/2 2", "haul 0 4", "haul 1/2 3")
        self.chooses(LINED, rows, 12, 2, ["dig 1/2 2"])
        self.chooses(LINED, rows, 11, 2, ["dig 1/2 2"])
        self.chooses(LINED, rows, 10, 3, ["haul 1/2 3"])
        self.chooses(LINED, rows, 9, 4, ["haul 0 4"])
        self.chooses(LINED, rows, 7, 4, ["haul 0 4"])
        self.chooses(LINED, rows, 6, 6, ["dig 1/2 2", "haul 0 4"])
        self.chooses(LINED, rows, 5, 6, ["dig 1/2 2", "haul 0 4"])
        self.chooses(LINED, rows, 4, 9, ["dig 0 5", "haul 0 4"])
        self.chooses(LINED, rows, 3, 9, ["dig 0 5", "haul 0 4"])
        self.chooses_none(LINED, rows, 2)

    def test_nothing_is_needed(self):
        self.chooses(LINED, ["dig 0 1"], 13, 0, [])
        self.chooses(LINED, ["dig 0 1", "haul 0 1"], 99, 0, [])

    def test_a_time_that_is_just_the_limit(self):
        self.chooses(LINED, ["dig 0 1"], "13", 0, [])
        self.chooses(LINED, ["dig 0 1"], "12999/1000", 1, ["dig 0 1"])
        self.chooses(LINED, ["dig 0 1"], 9, 1, ["dig 0 1"])
        self.chooses_none(LINED, ["dig 0 1"], "8999/1000")
        self.chooses(LINED, ["dig 1/3 1"], "31/3", 1, ["dig 1/3 1"])
        self.chooses_none(LINED, ["dig 1/3 1"], "30999/3000")

    def test_none(self):
        for limit in (8, 0, -1, "-1/2", -(10 ** 30)):
            self.chooses_none(LINED, ["dig 0 1"], limit)
        self.chooses_none(LINED, ["dig 9 1", "haul 9 1"], 12)

    def test_least_tuple_of_one_price(self):
        # By part.
        self.chooses(LINED, ["dig 0 5", "haul 0 5"], 9, 5, ["dig 0 5"])
        self.chooses(LINED, ["dig 0 5", "haul 0 5"], 7, 5, ["haul 0 5"])
        # By factor, which is neither by what stands above the stroke nor by what stands below.
        self.chooses(LINED, ["haul 1/3 5", "haul 1/2 5"], 10, 5, ["haul 1/3 5"])
        self.chooses(LINED, ["haul 2/5 5", "haul 1/2 5"], 10, 5, ["haul 2/5 5"])
        self.chooses(LINED, ["haul 1/3 5", "haul 2/5 5", "haul 1/2 5"], 10, 5, ["haul 1/3 5"])
        self.chooses(LINED, ["dig 3/2 5", "dig 2 5", "dig 9 5"], 99, 0, [])
        # By the price of the first offer.
        self.chooses(LINED, ["dig 0 2", "dig 0 5", "haul 0 3"], 7, 3, ["haul 0 3"])
        self.chooses(LINED, ["dig 0 2", "dig 0 5", "haul 1/2 3"], 9, 2, ["dig 0 2"])
        self.chooses(LINED, ["dig 1/2 2", "dig 1/2 4", "haul 0 4", "haul 0 6"], 5, 6, ["dig 1/2 2", "haul 0 4"])
        # A longer one may be the less one.
        self.chooses(LINED, ["dig 1/2 2", "haul 1/2 3", "haul 2/3 5"], 8, 5, ["dig 1/2 2", "haul 1/2 3"])
        self.chooses(LINED, ["dig 1/2 2", "haul 0 5", "haul 1/2 3"], 8, 5, ["dig 1/2 2", "haul 1/2 3"])
        self.chooses(LINED, ["dig 0 5", "dig 3/4 2", "haul 1/2 3"], 9, 5, ["dig 0 5"])

    def test_one_part_once(self):
        # Twice dig would be cheaper than dig at 0, but a part has one factor.
        self.chooses(LINED, ["dig 0 7", "dig 1/2 1", "dig 1/2 2"], 9, 7, ["dig 0 7"])
        self.chooses(LINED, ["dig 1/2 1", "dig 1/2 2"], 11, 1, ["dig 1/2 1"])
        self.chooses_none(LINED, ["dig 1/2 1", "dig 1/2 2"], 10)
        self.chooses_none(LINED, ["dig 1/4 1", "dig 1/3 1", "dig 1/2 1", "haul 1/2 1", "haul 2/3 1", "haul 1 1"], 6)

    def test_a_part_that_is_made_slower(self):
        self.chooses(GATE, ["fetch 0 3", "fetch 2 1"], 50, 1, ["fetch 2 1"])
        self.chooses(GATE, ["fetch 0 3", "fetch 2 4"], 75, 3, ["fetch 0 3"])
        self.chooses(GATE, ["fetch 0 3", "fetch 2 4"], 50, 4, ["fetch 2 4"])
        self.chooses_none(GATE, ["fetch 0 3", "fetch 1/2 1"], 50)

    def test_outcomes_that_are_not_done(self):
        # Without dig at 1/2 or less one waits for itself, early as this may be.
        self.chooses(TRAP, ["dig 0 5", "dig 2/3 1", "haul 0 2"], 99, 5, ["dig 0 5"])
        self.chooses(TRAP, ["dig 1/2 5", "dig 2/3 1", "haul 0 2"], 4, 7, ["dig 1/2 5", "haul 0 2"])
        self.chooses_none(TRAP, ["dig 2/3 1", "haul 0 2"], 99)

    def test_more_is_not_always_better(self):
        # haul alone ends in time; beside it, dig at 1/2 makes one late, at 22.
        self.chooses(CLIFF, ["dig 1/2 1", "haul 1/3 5"], 4, 5, ["haul 1/3 5"])
        self.assertFalse(ends_in_time(program(*CLIFF), offers("dig 1/2 1", "haul 1/3 5"), number(4)))
        self.chooses(CLIFF, ["dig 1/2 1", "haul 1/3 5"], 22, 0, [])
        self.chooses(CLIFF, ["dig 9/4 2", "haul 1/3 1"], 8, 1, ["haul 1/3 1"])
        self.chooses_none(CLIFF, ["dig 0 1", "haul 1/3 1"], 3)

    def test_the_whole_way_of_a_question(self):
        self.chooses(LINED, ["dig 0 5", "dig 1/2 2"], 13, 0, [], haul=(0, 1))
        self.chooses(LINED, ["dig 0 5", "dig 1/2 2"], 13, 0, [], haul=(1, 0))
        self.chooses(LINED, ["dig 0 5", "dig 1/2 2"], 17, 2, ["dig 1/2 2"], haul=(1, 2))
        self.chooses(LINED, ["dig 0 5", "dig 1/2 2"], 17, 2, ["dig 1/2 2"], haul=(2, 0))
        self.chooses(LINED, ["dig 0 5", "dig 1/2 2"], 15, 5, ["dig 0 5"], haul=(2, 0))
        self.chooses_none(LINED, ["dig 0 5", "dig 1/2 2"], "149/10", haul=(2, 0))
        self.chooses_none(LINED, ["dig 0 5", "dig 1/2 2"], "149/10", haul=(0, 2))

    def test_late_at_one_s_alone(self):
        self.chooses(PEAK, ["haul 0 5"], 11, 0, [], dig=(0, 2))
        self.chooses(PEAK, ["haul 0 5"], 10, 5, ["haul 0 5"], dig=(0, 2))
        self.chooses(PEAK, ["haul 0 5"], 10, 0, [], dig=(0, "1/2"))
        self.chooses_none(PEAK, ["haul 1/9 5"], 2, dig=(0, "3/2"))

    def test_late_in_some_cells(self):
        # one is late from 5/8 on, at 28 - 8 s.
        self.chooses_none(CLIFF, ["haul 0 1"], 22, dig=(2, 0))
        self.chooses(CLIFF, ["haul 0 1"], 23, 0, [], dig=(2, 0))
        self.chooses(CLIFF, ["haul 1/3 1"], 8, 1, ["haul 1/3 1"], dig=(2, 1))
        self.chooses_none(CLIFF, ["haul 1/3 1"], 7, dig=(2, 1))

    def test_an_end_that_is_not_included(self):
        # 72 + 8 s below 5/8: all of these times are below 77.
        self.chooses(IDLE_GATE, ["idle 0 1"], 77, 0, [], fetch=(0, 2))
        self.chooses_none(IDLE_GATE, ["idle 0 1"], "76999/1000", fetch=(0, 2))

    def test_same_offers_in_the_answer(self):
        given = offers("dig 0 5", "haul 0 4")
        _, chosen = choice(program(*LINED), given, number(3))
        self.assertIs(chosen[0], given[0])
        self.assertIs(chosen[1], given[1])

    def test_a_factor_of_one(self):
        self.chooses(LINED, ["dig 1 1", "haul 1 1"], 13, 0, [])
        self.chooses_none(LINED, ["dig 1 1", "haul 1 1"], 12)

    def drawn(self, numbers, is_asked):
        """Checks the choices of drawn programs, and returns the prices."""
        prices = []
        for at in numbers:
            one = Choosing(at, is_asked)
            with self.subTest(at=at):
                found = choice(one.program, one.offers, one.limit, question=one.asked)
                ending = [
                    chosen for chosen in plain_choices(one.offers)
                    if ends_in_time(one.program, chosen, one.limit, one.asked)
                ]
                self.assertEqual(found, (price_of(ending[0]), ending[0]) if ending else None)
                prices.append(found and found[0])
                rows = [plain_row(offer) for offer in one.offers]
                self.assertEqual(rows, sorted(set(rows)))
        return prices

    def test_drawn_choices(self):
        prices = self.drawn(range(150), False)
        self.assertTrue({None, 0, 1, 2, 3, 4} < set(prices))

    def test_drawn_choices_with_questions(self):
        prices = self.drawn(range(50), True)
        self.assertTrue({None, 0, 1, 2, 3} <= set(prices))
