"""Section 10: what offers are, BadOffers for all else, and BadQuestion for questions beside them."""

import copy

from tests.helpers import any_values
from tests.telling import MANY_BY_HAUL, CurveCase, number, offers, program, question, speeds
from tests.test_questions import wrong_questions
from whatspeed.choices import choice, shows_too_late, too_late
from whatspeed.curves import curve
from whatspeed.errors import BadOffers, BadQuestion, TooMany
from whatspeed.exact import Line, Number, Stretch

ROWS = [
    "lock a", "queue pipe 1", "cell heap 1", "part dig", "part haul", "part idle",
    "task one 1; lock a; work 2 dig; work 3 haul; work 5; x = 1",
]
ONE = Number(1)
TWO = Number(2)
GOOD = ("dig", ONE, 5)
LIMIT = number(9)


def calls(one, rows, **more):
    """The three functions, each called with these offers."""
    return [
        lambda: choice(one, rows, LIMIT, **more), lambda: too_late(one, rows, LIMIT, 99, **more),
        lambda: shows_too_late(one, rows, LIMIT, 99, None, **more),
    ]


def wrong_kinds():
    """Values that are no tuples of one to six triples, and triples of other kinds."""
    six = offers("dig 0 1", "dig 1 1", "dig 2 1", "haul 0 1", "haul 1 1", "haul 2 1")
    return [
        (), [], [GOOD], {"dig": (ONE, 5)}, "dig", GOOD, ("dig",), (*six, *offers("idle 0 1")), list(six),
        (None,), (ONE,), ("",), ((),), (["dig", ONE, 5],), ({"dig": ONE},), (GOOD, None), (GOOD, ()), (GOOD, []),
        # Rows that are too short or too long, or in another sequence.
        (("dig",),), (("dig", ONE),), (("dig", ONE, 5, 5),), (("dig", ONE, ONE, 5),), (("dig", 5, ONE),),
        ((ONE, "dig", 5),), ((5, ONE, "dig"),), ((GOOD,),), ((*GOOD, None),), (GOOD, ("haul", ONE)),
        # Names of other kinds, and no names.
        (("one", ONE, 5),), (("a", ONE, 5),), (("pipe", ONE, 5),), (("heap", ONE, 5),), (("x", ONE, 5),),
        (("none", ONE, 5),), (("", ONE, 5),), (("Dig", ONE, 5),), (("dig ", ONE, 5),), ((1, ONE, 5),),
        ((None, ONE, 5),), ((True, ONE, 5),), ((["dig"], ONE, 5),), ((("dig",), ONE, 5),), (({"dig": 1}, ONE, 5),),
        (GOOD, ("none", ONE, 5)),
    ]


def wrong_worths():
    """Offers with factors that are no Numbers from 0 to 9, or with prices that are no integers from 1 to 99."""
    factors = [
        0, 1, 9, True, False, "1", None, (1, 1), (ONE,), [ONE], {}, Line(ONE, ONE), Stretch(ONE, ONE), number(-1),
        number("-1/1000"), number("9001/1000"), number(10), number(10 ** 40),
    ]
    prices = [
        0, 100, -1, -5, 10 ** 40, True, False, "5", None, ONE, number(5), (5,), [5], {}, Line(ONE, ONE), "",
    ]
    rows = [("dig", factor, 5) for factor in factors] + [("dig", ONE, price) for price in prices]
    return [(row,) for row in rows] + [(("dig", Number(0), 1), row) for row in rows] + [
        (("dig", ONE, 5), ("haul", ONE, 0)), (("dig", 1, 5), ("haul", ONE, 5)), (("dig", ONE, 100), ("haul", ONE, 5)),
    ]


def wrong_sequences():
    """Offers that are not ascending, or that have the same row twice."""
    return [
        offers(*rows) for rows in [
            ("haul 1 5", "dig 1 5"), ("haul 1 1", "dig 2 2"), ("dig 1 5", "idle 1 5", "haul 1 5"),
            ("dig 2 5", "dig 1 5"), ("dig 1 5", "dig 1/2 5"), ("dig 2 1", "dig 1 2"), ("dig 1/2 5", "dig 1/3 5"),
            ("dig 1 5", "dig 1 4"), ("dig 1 5", "dig 1 6", "dig 1 5"), ("dig 10/9 1", "dig 1 1"),
            ("dig 1 5", "dig 1 5"), ("dig 1 5", "dig 2/2 5"), ("dig 1 5", "haul 1 5", "haul 1 5"),
            ("dig 1 5", "haul 1 5", "dig 1 5"), ("haul 0 1", "haul 1 1", "haul 1 1", "idle 2 3"),
        ]
    ]


def wrong_offers():
    """Values of every kind that are no offers for this program."""
    return wrong_kinds() + wrong_worths() + wrong_sequences() + any_values() + [speeds(dig=1), question(dig=(1, 2))]


class OffersTest(CurveCase):

    def test_what_offers_are(self):
        one = program(*ROWS)
        for rows in [
            ("dig 1 1",), ("dig 0 99",), ("dig 9 1",), ("idle 1 1",), ("dig 1/2 5", "dig 1/2 6"),
            ("dig 1/3 9", "dig 1/2 8", "dig 3/2 7"), ("dig 2 5", "haul 1 1", "idle 0 9"), ("dig 1 5", "haul 1 5"),
            ("dig 9/10 5", "dig 1 5"), ("dig 2 99", "dig 9 1"), ("dig 0 1", "dig 0 2", "dig 0 99"),
            ("dig 0 1", "dig 1 1", "dig 2 1", "haul 0 1", "haul 1 1", "haul 2 1"),
        ]:
            given = offers(*rows)
            self.assertEqual(choice(one, given, number(10)), (0, ()))
            self.assertIsNone(too_late(one, given, number(10), 0))
            self.assertIs(shows_too_late(one, given, number(10), 0, None), False)

    def test_whatever_is_none(self):
        one = program(*ROWS)
        for value in wrong_offers():
            with self.subTest(value=value):
                self.refuses(BadOffers, value, choice, one, value, LIMIT)
                self.refuses(BadOffers, value, choice, one, offers=value, limit=LIMIT)
                self.refuses(BadOffers, value, too_late, one, value, LIMIT, 0)
                self.refuses(BadOffers, value, shows_too_late, one, value, LIMIT, 0, ())

    def test_parts_of_another_program(self):
        for other in (program("part digs", "task one 1; work 1 digs"), program("task one 1; work 1")):
            value = (GOOD,)
            self.refuses(BadOffers, value, choice, other, value, LIMIT)

    def test_all_stays_as_it_was(self):
        for value in wrong_offers():
            if not isinstance(value, (tuple, list, dict)):
                continue
            before = copy.deepcopy(value)
            for call in calls(program(*ROWS), value):
                self.assertRaises(BadOffers, call)
            self.assertEqual(value, before)


class QuestionsTest(CurveCase):

    def refuse_question(self, one, rows, value):
        self.refuses(BadQuestion, value, choice, one, rows, LIMIT, question=value)
        self.refuses(BadQuestion, value, too_late, one, rows, LIMIT, 0, question=value)
        self.refuses(BadQuestion, value, shows_too_late, one, rows, LIMIT, 0, None, question=value)

    def test_no_questions(self):
        for value in wrong_questions():
            with self.subTest(value=value):
                self.refuse_question(program(*ROWS), offers("idle 1 5"), value)

    def test_parts_that_are_offered(self):
        one = program(*ROWS)
        for rows, pairs in [
            (("dig 1 5",), {"dig": (0, 1)}), (("dig 1 5",), {"dig": (1, 1)}),
            (("dig 1 5",), {"dig": (0, 1), "haul": (1, 2)}), (("haul 1 5",), {"dig": (0, 1), "haul": (1, 2)}),
            (("dig 1 5", "haul 2 3"), {"haul": (1, 2), "idle": (0, 1)}), (("dig 0 1", "dig 1 1"), {"dig": (1, 1)}),
        ]:
            self.refuse_question(one, offers(*rows), question(**pairs))

    def test_question_by_name_only(self):
        one, asked = program(*ROWS), question(haul=(0, 1))
        self.assertEqual(choice(one, (GOOD,), number(10), question=asked), (0, ()))
        with self.assertRaises(TypeError):
            choice(one, (GOOD,), number(10), asked)
        with self.assertRaises(TypeError):
            too_late(one, (GOOD,), number(10), 0, asked)
        with self.assertRaises(TypeError):
            shows_too_late(one, (GOOD,), number(10), 0, None, asked)

    def test_both_are_wrong(self):
        one = program(*ROWS)
        for value in (None, [], (), ("dig", ONE), (("dig", ONE, TWO),)):
            for asked in (None, [], question(dig=(0, 1)), question(dig=(0, 1)) * 2):
                self.refuses(BadOffers, value, choice, one, value, LIMIT, question=asked)
                self.refuses(BadOffers, value, too_late, one, value, LIMIT, 0, question=asked)
                self.refuses(BadOffers, value, shows_too_late, one, value, LIMIT, 0, None, question=asked)


class TooManyTest(CurveCase):
    """MANY_BY_HAUL has few cells with dig from 0 to 1/99, and too many if haul has the factor 1/1000."""

    def many(self, *args, **more):
        with self.assertRaises(TooMany) as caught:
            args[0](*args[1:], **more)
        self.assertIs(type(caught.exception), TooMany)

    def test_cells_of_choices(self):
        one, asked = program(*MANY_BY_HAUL), question(dig=(0, "1/99"))
        self.assertEqual(len(curve(one, asked)), 2)
        self.many(curve, one, asked + question(haul=("1/1000", "1/1000")))

    def test_what_is_asked_for_comes_first(self):
        # Wrong offers, and wrong questions, are told ahead of too many cells.
        one, asked = program(*MANY_BY_HAUL), question(dig=(0, "1/99"))
        value = []
        self.refuses(BadOffers, value, choice, one, value, LIMIT, question=asked)
        wrong = asked + question(haul=(0, 1))
        self.refuses(BadQuestion, wrong, choice, one, offers("haul 1/1000 5"), LIMIT, question=wrong)

    def test_the_needed_one_has_few(self):
        # Without an offer all is done at 20.
        one, asked = program(*MANY_BY_HAUL), question(dig=(0, "1/99"))
        for rows in [("haul 1/1000 5",), ("haul 0 1", "haul 1/1000 99"), ("haul 1/1000 1", "haul 1 1")]:
            self.many(choice, one, offers(*rows), number(20), question=asked)
        self.assertEqual(choice(one, offers("haul 0 1", "haul 1 9"), number(20), question=asked), (0, ()))

    def test_none_is_in_time(self):
        one, asked = program(*MANY_BY_HAUL), question(dig=(0, "1/99"))
        self.many(choice, one, offers("haul 1/1000 5"), number(-1), question=asked)

    def test_only_choices_of_at_most_the_price(self):
        # With haul at 0 all is done at 20/99, at the latest.
        one, asked = program(*MANY_BY_HAUL), question(dig=(0, "1/99"))
        rows = offers("haul 0 2", "haul 1/1000 5")
        for limit, price, many in [(20, 0, None), (20, 4, None), (19, 0, 1), (19, 2, None), (-1, 1, 1), (-1, 4, 2)]:
            found = too_late(one, rows, number(limit), price, question=asked)
            self.assertEqual(None if found is None else len(found), many)
            shown = shows_too_late(one, rows, number(limit), price, found, question=asked)
            self.assertIs(shown, many is not None)
        for limit, price in [(20, 5), (19, 10 ** 9), (-1, 5)]:
            self.many(too_late, one, rows, number(limit), price, question=asked)
            self.many(shows_too_late, one, rows, number(limit), price, None, question=asked)

    def test_the_choice_of_nothing_has_too_many(self):
        one, asked = program(*MANY_BY_HAUL), question(dig=(0, 9))
        self.many(choice, one, offers("haul 0 5"), number(180), question=asked)
        self.many(too_late, one, offers("haul 0 5"), number(180), 0, question=asked)
        self.many(shows_too_late, one, offers("haul 0 5"), number(180), 0, None, question=asked)
