"""Section 7: run, shows_run, and what a Run tells."""

import inspect

from tests.helpers import any_values, others
from tests.telling import DOOR, RunCase, amount, changed, fraction, number, program, said, speeds, told
from whatspeed.errors import BadTime, NoEvent
from whatspeed.exact import Number
from whatspeed.runs import run, shows_run

ROWS = (
    (9, 1), "done",
    (
        ((0, 1), (
            ("run", "high", 0), ("step", "high", 10), ("run", "low", 0), ("step", "low", 5),
        )),
        ((4, 1), (("over", "low", 5), ("step", "low", 6), ("step", "low", 7))),
        ((5, 1), (
            ("wake", "high", 10), ("stop", "low", 0), ("run", "high", 0), ("step", "high", 11), ("run", "low", 0),
        )),
        ((7, 1), (
            ("over", "low", 7), ("step", "low", 8), ("go", "high", 11), ("stop", "low", 0), ("run", "high", 0),
            ("step", "high", 12),
        )),
        ((9, 1), (
            ("over", "high", 12), ("step", "high", 13), ("step", "high", 14), ("end", "high", 9), ("run", "low", 0),
            ("end", "low", 4),
        )),
    ),
)


class RunTest(RunCase):

    def test_properties(self):
        one = program(*DOOR)
        two = run(one, speeds(fetch="1/2"))
        self.assertIs(two.program, one)
        self.assertEqual([type(two.time), fraction(two.time)], [Number, 7])
        self.assertEqual(two.outcome, "done")
        self.assertEqual(said(two), ["7 high 1"])
        self.assertEqual(told(two), [
            "0: run high 0, step high 10, run low 0, step low 5",
            "2: over low 5, step low 6, step low 7",
            "5: wake high 10, over low 7, stop low 0, run high 0, step high 11, run low 0, step low 8, go high 11, "
            "stop low 0, run high 0, step high 12",
            "7: over high 12, step high 13, step high 14, end high 9, run low 0, end low 4",
        ])

    def test_kinds_of_values(self):
        one = run(program(*DOOR))
        for value in (one.events, one.outputs, one.moments, one.events[0], one.outputs[0], one.moments[0]):
            self.assertIs(type(value), tuple)
        self.assertIs(type(one.moments[0][1]), tuple)
        self.assertIs(type(one.outcome), str)
        self.assertIs(type(one.moments[2][0]), Number)
        self.assertEqual([type(value) for value in one.outputs[0]], [Number, str, int])

    def test_events_are_those_of_the_moments(self):
        one = run(program(*DOOR))
        self.assertEqual(one.events, tuple(event for _, events in one.moments for event in events))
        self.assertEqual(len(one.events), 24)

    def test_times_that_are_no_integers(self):
        one = run(program(*DOOR), speeds(fetch="1/3"))
        self.assertEqual([amount(time) for time, _ in one.moments], ["0", "4/3", "13/3", "5", "7"])
        self.assertEqual([one.moments[1][0].top, one.moments[1][0].bottom], [4, 3])

    def test_outputs_in_their_sequence(self):
        one = run(program("cores 2", "task one 1; say 3; work 2; say 1", "task two 1; say 5; work 1; say 2; say 0"))
        self.assertEqual(said(one), ["0 one 3", "0 two 5", "1 two 2", "1 two 0", "2 one 1"])

    def test_never_changes(self):
        one = run(program(*DOOR))
        rows = one.rows()
        one.account("low"), one.chain(), one.first(lambda state: False), list(one.samples(Number(1)))
        self.assertEqual(one.rows(), rows)

    def test_equal_calls_give_equal_results(self):
        self.assertEqual(run(program(*DOOR)).rows(), run(program(*DOOR)).rows())
        one = program(*DOOR)
        run(one, speeds(fetch=9))
        self.assertEqual(run(one).rows(), ROWS)


class TimeOfTest(RunCase):

    def test_each_event(self):
        one = run(program(*DOOR), speeds(fetch="1/3"))
        expected = [time for time, events in one.moments for _ in events]
        self.assertEqual([one.time_of(index) for index in range(len(one.events))], expected)
        self.assertEqual(amount(one.time_of(index=4)), "4/3")

    def test_no_event(self):
        one = run(program(*DOOR))
        for value in [-1, -24, 24, 25, 10 ** 40, -(10 ** 40)] + others() + [Number(0), Number(1), 10 ** 20]:
            with self.subTest(value=value):
                self.refuses(NoEvent, value, one.time_of, value)

    def test_run_without_events(self):
        one = run(program("task one 1 later; say 1"))
        self.refuses(NoEvent, 0, one.time_of, 0)


class StateAtTest(RunCase):

    def test_at_between_and_behind_moments(self):
        one = run(program(*DOOR), speeds(fetch="1/3"))
        for given, time in [
            ("0", "0"), ("1", "0"), ("4/3", "4/3"), ("1333/1000", "0"), ("1334/1000", "4/3"), ("4", "4/3"),
            ("13/3", "13/3"), ("49/10", "13/3"), ("5", "5"), ("6", "5"), ("6999/1000", "5"), ("7", "7"),
        ]:
            self.assertEqual(amount(one.state(number(given)).time), time)
        self.assertEqual(amount(one.state(time=number(5)).time), "5")

    def test_no_time(self):
        one = run(program(*DOOR))
        wrong = [number(-1), number("-1/1000"), number(10), number("9001/1000")]
        for value in wrong + others() + [0, 1, 9, -1, 10 ** 40]:
            with self.subTest(value=value):
                self.refuses(BadTime, value, one.state, value)

    def test_run_of_time_0(self):
        one = run(program("task one 1 later; say 1"))
        self.assertEqual(amount(one.state(Number(0)).time), "0")
        value = number("1/1000000")
        self.refuses(BadTime, value, one.state, value)


class FirstTest(RunCase):

    def test_first_moment_for_which_it_is_so(self):
        one = run(program(*DOOR))
        self.assertEqual(amount(one.first(lambda state: state.holder("door") == "low")), "4")
        self.assertEqual(amount(one.first(lambda state: state["high"] == ("lock", "door"))), "5")
        self.assertEqual(amount(one.first(test=lambda state: state["low"] == ("end",))), "9")
        self.assertIs(type(one.first(lambda state: True)), Number)

    def test_none(self):
        one = run(program(*DOOR))
        self.assertIs(one.first(lambda state: state["high"] == ("later",)), None)
        self.assertIs(one.first(lambda state: None), None)

    def test_true_values_of_every_kind(self):
        one = run(program(*DOOR))
        for value in any_values():
            with self.subTest(value=value):
                found = one.first(lambda state: value)
                self.assertEqual(found is not None, bool(value))
                if value:
                    self.assertEqual(amount(found), "0")

    def test_called_with_the_states_in_sequence_no_further_than_needed(self):
        one = run(program(*DOOR))
        for stop, calls in [(0, ["0"]), (4, ["0", "4"]), (7, ["0", "4", "5", "7"]), (99, ["0", "4", "5", "7", "9"])]:
            seen = []

            def test(state, seen=seen, stop=stop):
                seen.append(amount(state.time))
                return fraction(state.time) >= stop

            one.first(test)
            self.assertEqual(seen, calls)

    def test_errors_of_the_function_go_on(self):
        with self.assertRaises(KeyError):
            run(program(*DOOR)).first(lambda state: {}["a"])


class SamplesTest(RunCase):

    def samples(self, one, every):
        return [(amount(time), cores) for time, cores in one.samples(number(every))]

    def test_generator(self):
        found = run(program(*DOOR)).samples(Number(1))
        self.assertTrue(inspect.isgenerator(found))
        self.assertEqual([type(value) for value in next(found)], [Number, tuple])

    def test_one_core(self):
        one = run(program(*DOOR))
        self.assertEqual(self.samples(one, 2), [
            ("0", (("low", "fetch"),)), ("2", (("low", "fetch"),)), ("4", (("low", ""),)), ("6", (("low", ""),)),
            ("8", (("high", ""),)),
        ])

    def test_the_last_one_may_be_at_the_end(self):
        one = run(program(*DOOR))
        self.assertEqual(self.samples(one, 3)[2:], [("6", (("low", ""),)), ("9", (None,))])
        self.assertEqual(self.samples(one, 9), [("0", (("low", "fetch"),)), ("9", (None,))])

    def test_further_than_the_time(self):
        self.assertEqual(self.samples(run(program(*DOOR)), 10), [("0", (("low", "fetch"),))])
        self.assertEqual(self.samples(run(program(*DOOR)), "91/10"), [("0", (("low", "fetch"),))])

    def test_parts_of_an_integer(self):
        one = run(program("task one 1; work 1"))
        works = (("one", ""),)
        self.assertEqual(self.samples(one, "2/5"), [("0", works), ("2/5", works), ("4/5", works)])
        self.assertEqual([time for time, _ in self.samples(one, "1/3")], ["0", "1/3", "2/3", "1"])

    def test_idle_cores(self):
        one = run(program("cores 3", "part dig", "task one 1; sleep 1; work 2 dig", "task two 1; work 2"))
        self.assertEqual(self.samples(one, 1), [
            ("0", (None, ("two", ""), None)), ("1", (("one", "dig"), ("two", ""), None)),
            ("2", (("one", "dig"), None, None)), ("3", (None, None, None)),
        ])

    def test_run_of_time_0(self):
        self.assertEqual(self.samples(run(program("cores 2", "task one 1; say 1")), 5), [("0", (None, None))])

    def test_task_that_has_a_core_but_no_work(self):
        # The run ends at 2, when one has just been through with its work, and two is in the midst of its own.
        one = run(program("cores 2", "lock a", "part dig", "task one 1; work 2; unlock a", "task two 1; work 5 dig"))
        self.assertEqual(one.outcome, "fault")
        self.assertEqual(self.samples(one, 2), [("0", (("one", ""), ("two", "dig"))), ("2", (None, ("two", "dig")))])

    def test_by_name(self):
        self.assertEqual(len(list(run(program(*DOOR)).samples(every=Number(1)))), 10)


class RowsTest(RunCase):

    def test_rows(self):
        self.assertEqual(run(program(*DOOR)).rows(), ROWS)
        self.assertEqual(run(program("part dig", "task one 1; work 1 dig"), speeds(dig="2/3")).rows(), (
            (2, 3), "done", (
                ((0, 1), (("run", "one", 0), ("step", "one", 4))), ((2, 3), (("over", "one", 4), ("end", "one", 3))),
            ),
        ))
        self.assertEqual(run(program("task one 1 later; say 1")).rows(), ((0, 1), "done", (((0, 1), ()),)))

    def test_shows_run(self):
        one = program(*DOOR)
        self.assertIs(shows_run(one, (), ROWS), True)
        self.assertIs(shows_run(one, speeds(fetch=1), ROWS), True)
        self.assertIs(shows_run(one, speeds(fetch="3/2"), ROWS), False)
        self.assertIs(shows_run(one, speeds(fetch="3/2"), run(one, speeds(fetch="3/2")).rows()), True)
        self.assertIs(shows_run(program("task one 1; say 1"), (), ROWS), False)

    def test_other_rows(self):
        one = program(*DOOR)
        count = 0
        for value in changed(ROWS):
            self.assertIs(shows_run(one, (), value), False, value)
            count += 1
        self.assertGreater(count, 500)

    def test_number_that_is_not_in_lowest_terms(self):
        self.assertIs(shows_run(program(*DOOR), (), ((18, 2), *ROWS[1:])), False)
        self.assertIs(shows_run(program(*DOOR), (), ((-9, -1), *ROWS[1:])), False)

    def test_truth_in_the_place_of_an_integer(self):
        one = program("task one 1; work 1")
        rows = run(one).rows()
        self.assertEqual(rows[0], (1, 1))
        for top, bottom in [(True, 1), (1, True)]:
            self.assertIs(shows_run(one, (), ((top, bottom), *rows[1:])), False)
        self.assertIs(shows_run(one, (), rows), True)

    def test_values_of_every_kind(self):
        for value in any_values() + [run(program(*DOOR)), run(program(*DOOR)).moments]:
            with self.subTest(value=value):
                self.assertIs(shows_run(program(*DOOR), (), value), False)
