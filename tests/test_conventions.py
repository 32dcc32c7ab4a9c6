"""Section 2, for runs and curves: arguments by name and by position, and that they stay as they were."""

import copy
import inspect

from tests.telling import MANY, CurveCase, number, program, question, speeds
from whatspeed import asking, curves, runs
from whatspeed.curves import curve, shows_cell, shows_curve
from whatspeed.errors import BadQuestion, BadSpeeds, NoSpeed, TooMany
from whatspeed.exact import Number
from whatspeed.runs import run, shows_run

DOOR = [
    "lock door", "queue pipe 1", "cell heap 1", "part fetch",
    "task low 1; work 4 fetch; lock door; work 3; unlock door; put pipe 1",
    "task high 2; sleep 5; lock door; work 2; unlock door; say 1",
]
NAMES = {
    runs.run: ["program", "speeds"], runs.shows_run: ["program", "speeds", "value"],
    curves.curve: ["program", "question"], curves.shows_curve: ["program", "question", "value"],
    curves.shows_cell: ["program", "question", "value"], asking.reaches: ["curve", "limit"],
    asking.where: ["curve", "test"], asking.least: ["curve"], asking.greatest: ["curve"], asking.falls: ["curve"],
    asking.unlike: ["one", "other"], asking.slower: ["one", "other"], asking.pulls: ["program", "speeds"],
}
METHODS = {
    "Run": {"time_of": ["index"], "state": ["time"], "first": ["test"], "account": ["task"], "chain": [],
            "samples": ["every"], "rows": []},
    "State": {"queue": ["name"], "holder": ["name"], "variable": ["task", "name"]},
    "Curve": {"speeds": ["s"], "borders": [], "changes": [], "rows": [], "__call__": ["s"], "__len__": []},
    "Cell": {"time_of": ["index"], "account": ["task"], "chain": [], "shares": [], "run": ["s"]},
}
PROPERTIES = {
    "Run": ["program", "time", "outcome", "events", "outputs", "moments"], "State": ["time", "cells"],
    "Curve": ["program", "question", "cells"],
    "Cell": ["stretch", "time", "outcome", "events", "moments", "outputs"],
}


class ArgumentsTest(CurveCase):

    def objects(self):
        one = curve(program(*DOOR), question(fetch=(0, 2)))
        plain = run(program(*DOOR))
        return [plain, plain.state(Number(0)), one, one.cells[0]]

    def test_names_of_functions(self):
        for function, names in NAMES.items():
            self.assertEqual(list(inspect.signature(function).parameters), names)
            self.assertEqual(function.__module__, "whatspeed." + {
                "run": "runs", "shows_run": "runs", "curve": "curves", "shows_curve": "curves", "shows_cell": "curves",
            }.get(function.__name__, "asking"))

    def test_names_of_methods(self):
        for one in self.objects():
            for name, names in METHODS[type(one).__name__].items():
                self.assertIn(name, vars(type(one)))
                self.assertEqual(list(inspect.signature(getattr(one, name)).parameters), names)
            for name in PROPERTIES[type(one).__name__]:
                getattr(one, name)

    def test_all_by_name(self):
        plain, state, one, cell = self.objects()
        self.assertEqual(plain.time_of(index=0), Number(0))
        self.assertEqual(plain.state(time=Number(0)).time, Number(0))
        self.assertEqual(plain.first(test=lambda state: True), Number(0))
        self.assertEqual(plain.account(task="low"), plain.account("low"))
        self.assertEqual(len(list(plain.samples(every=Number(3)))), 4)
        self.assertEqual([state.queue(name="pipe"), state.holder(name="door")], [(), None])
        self.assertEqual(state.variable(name="x", task="low"), 0)
        self.assertEqual([one(s=Number(0)), one.speeds(s=Number(0))], [Number(7), speeds(fetch=0)])
        self.assertEqual([cell.time_of(index=0).base, cell.run(s=Number(0)).time], [Number(0), Number(7)])
        self.assertEqual(cell.account(task="low"), cell.account("low"))
        rows = one.rows()
        self.assertIs(shows_curve(value=rows, question=one.question, program=one.program), True)
        self.assertIs(shows_cell(value=rows[0], question=one.question, program=one.program), True)
        self.assertIs(shows_run(value=plain.rows(), speeds=(), program=plain.program), True)

    def test_values_stay_as_they_were(self):
        one, asked = program(*DOOR), question(fetch=(0, 2))
        rows = [[1, [2]], {"a": [1]}, ([1], [2]), [run(one).rows()], [curve(one, asked).rows()]]
        for value in rows:
            before = copy.deepcopy(value)
            shows_run(one, (), value), shows_curve(one, asked, value), shows_cell(one, asked, value)
            self.assertEqual(value, before)
        given = speeds(fetch=2)
        run(one, given), asking.pulls(one, given), curve(one, asked)
        self.assertEqual([given, asked], [speeds(fetch=2), question(fetch=(0, 2))])
        self.assertEqual(one, program(*DOOR))

    def test_asking_changes_no_curve(self):
        one, other = curve(program(*DOOR), question(fetch=(0, 2))), curve(program(*DOOR), question(fetch=(2, 0)))
        rows = [one.rows(), other.rows()]
        asking.reaches(one, Number(9)), asking.where(one, lambda cell: True), asking.least(one), asking.greatest(one)
        asking.falls(one), asking.unlike(one, other), asking.slower(one, other)
        list(one.borders()), list(one.changes()), [cell.shares() for cell in one.cells]
        self.assertEqual([one.rows(), other.rows()], rows)

    def test_errors_change_nothing(self):
        one = curve(program(*DOOR), question(fetch=(0, 2)))
        rows = one.rows()
        for action in (lambda: one(2), lambda: one[None], lambda: one.cells[0].run(Number(1))):
            with self.assertRaises(NoSpeed):
                action()
        self.assertEqual(one.rows(), rows)

    def test_sequence_of_errors(self):
        # A question that is none is told ahead of too many cells, and speeds and questions ahead of the value.
        many = program(*MANY)
        with self.assertRaises(TooMany):
            curve(many, question(dig=(0, 9)))
        for value in (question(dig=(0, 9)) * 2, list(question(dig=(0, 9)))):
            self.refuses(BadQuestion, value, curve, many, value)
            self.refuses(BadQuestion, value, shows_curve, many, value, None)
        self.refuses(BadSpeeds, None, shows_run, many, None, None)

    def test_equal_calls_give_equal_results(self):
        one = program(*DOOR)
        asked = question(fetch=(0, 2))
        for call in (
            lambda: run(one).rows(), lambda: run(one).chain(), lambda: run(one).account("high"),
            lambda: curve(one, asked).rows(), lambda: asking.pulls(one, ()),
            lambda: asking.reaches(curve(one, asked), number(9)),
            lambda: asking.least(curve(one, asked)), lambda: asking.greatest(curve(one, asked)),
            lambda: asking.falls(curve(one, question(fetch=(2, 0)))),
            lambda: list(curve(one, asked).changes()), lambda: curve(one, asked).cells[3].shares(),
        ):
            self.assertEqual(call(), call())
