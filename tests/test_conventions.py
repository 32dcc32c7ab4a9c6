"""Section 2 and the interface: arguments by name and by position, that they stay as they were, and where all is."""

import copy
import inspect
import itertools

from tests.telling import MANY, CurveCase, number, offers, program, question, speeds
from whatspeed import asking, benches, choices, curves, desk, exact, programs, runs, texts
from whatspeed.benches import Bench
from whatspeed.choices import choice, shows_too_late, too_late
from whatspeed.curves import curve, shows_cell, shows_curve
from whatspeed.desk import Desk
from whatspeed.errors import (
    BadOffers, BadQuestion, BadSpeeds, NoLine, NoSpeed, NothingToRedo, NothingToUndo, SpeedError, TooMany,
)
from whatspeed.exact import Line, Number, Stretch
from whatspeed.runs import run, shows_run

DOOR = [
    "lock door", "queue pipe 1", "cell heap 1", "part fetch",
    "task low 1; work 4 fetch; lock door; work 3; unlock door; put pipe 1",
    "task high 2; sleep 5; lock door; work 2; unlock door; say 1",
]
# The names of all arguments, those by name alone behind a `*`.
FUNCTIONS = {
    runs: {"run": "program speeds", "shows_run": "program speeds value"},
    curves: {
        "curve": "program question", "shows_curve": "program question value", "shows_cell": "program question value",
    },
    asking: {
        "reaches": "curve limit", "where": "curve test", "least": "curve", "greatest": "curve", "falls": "curve",
        "unlike": "one other", "slower": "one other", "pulls": "program speeds",
    },
    choices: {
        "choice": "program offers limit * question", "too_late": "program offers limit price * question",
        "shows_too_late": "program offers limit price value * question",
    },
    texts: {
        "show_number": "number", "read_number": "text", "show_line": "line", "read_line": "text",
        "show_stretch": "stretch", "read_stretch": "text", "show_curve": "curve", "show_run": "run",
    },
}
CLASSES = {
    exact: {"Number": "top bottom", "Line": "base slope", "Stretch": "low high * has_low has_high"},
    programs: {"Program": "text"}, benches: {"Bench": "text"}, desk: {"Desk": "text"},
}
METHODS = {
    "Number": {
        "is_less": "other", "divided_by": "other", "__add__": "other", "__sub__": "other", "__mul__": "other",
        "__neg__": "", "__abs__": "", "__bool__": "", "__eq__": "other",
    },
    "Line": {"__call__": "s", "meets": "other", "__add__": "other", "__sub__": "other", "__eq__": "other"},
    "Stretch": {"__contains__": "s", "__eq__": "other"},
    "Program": {"__eq__": "other"},
    "Run": {"time_of": "index", "state": "time", "first": "test", "account": "task", "chain": "", "samples": "every",
            "rows": ""},
    "State": {"queue": "name", "holder": "name", "variable": "task name", "__getitem__": "task"},
    "Curve": {"speeds": "s", "borders": "", "changes": "", "rows": "", "__call__": "s", "__len__": "",
              "__getitem__": "s"},
    "Cell": {"time_of": "index", "account": "task", "chain": "", "shares": "", "run": "s", "__contains__": "s"},
    "Bench": {"edit": "line count text", "undo": "", "redo": "", "run": "speeds", "curve": "question",
              "change": "question", "trial": "", "tried": "action * keep"},
    "Trial": {"keep": "", "__enter__": ""},
    "Desk": {"say": "line"},
}
PROPERTIES = {
    "Number": "top bottom", "Line": "base slope", "Stretch": "low high has_low has_high middle",
    "Program": "text parts tasks lines", "Run": "program time outcome events outputs moments", "State": "time cells",
    "Curve": "program question cells", "Cell": "stretch time outcome events moments outputs", "Bench": "text program",
    "Trial": "", "Desk": "",
}


def names_of(function):
    """The names of the parameters, with a `*` ahead of those that are given by name alone."""
    names = []
    for name, parameter in inspect.signature(function).parameters.items():
        if parameter.kind is parameter.KEYWORD_ONLY and "*" not in names:
            names.append("*")
        names.append(name)
    return " ".join(names)


BOTH = ["part fetch", "part haul", "task one 1; work 4 fetch; work 2 haul; work 3"]


def told(value):
    """What a call returned, as a value that can be compared."""
    if type(value).__name__ == "State":
        return value.time, value.cells
    return value.rows() if type(value).__name__ in ("Run", "Curve") else getattr(value, "text", value)


class ArgumentsTest(CurveCase):

    def objects(self):
        one = curve(program(*DOOR), question(fetch=(0, 2)))
        plain = run(program(*DOOR))
        return [plain, plain.state(Number(0)), one, one.cells[0]]

    def all_objects(self):
        bench = Bench(program(*DOOR).text)
        exacts = [Number(1), Line(Number(1), Number(2)), Stretch(Number(0), Number(1))]
        return [*exacts, bench.program, *self.objects(), bench, bench.trial(), Desk(bench.text)]

    def test_names_of_functions(self):
        for module, functions in FUNCTIONS.items():
            for name, names in functions.items():
                function = getattr(module, name)
                self.assertEqual(names_of(function), names)
                self.assertEqual([function.__name__, function.__module__], [name, module.__name__])

    def test_names_of_classes(self):
        for module, classes in CLASSES.items():
            for name, names in classes.items():
                self.assertEqual(names_of(getattr(module, name)), names)
                self.assertEqual(getattr(module, name).__module__, module.__name__)

    def test_names_of_methods(self):
        for one in self.all_objects():
            for name, names in METHODS[type(one).__name__].items():
                self.assertIn(name, vars(type(one)))
                self.assertEqual(names_of(getattr(one, name)), names)
            for name in PROPERTIES[type(one).__name__].split():
                self.assertIn(name, vars(type(one)))
                getattr(one, name)
        self.assertEqual({type(one).__name__ for one in self.all_objects()}, set(METHODS))

    def test_by_position_and_by_name(self):
        # Every call in each sequence of its names, and as far by position as may be.
        one, asked, rows = program(*DOOR), question(fetch=(0, 2)), offers("fetch 0 3", "fetch 2 1")
        limit, line = number("17/2"), curve(one, asked)
        plain = run(one)
        late = too_late(one, rows, number(6), 3)
        for function, args in [
            (run, {"program": one, "speeds": speeds(fetch=2)}), (curve, {"program": one, "question": asked}),
            (shows_run, {"program": one, "speeds": (), "value": plain.rows()}),
            (shows_curve, {"program": one, "question": asked, "value": line.rows()}),
            (shows_cell, {"program": one, "question": asked, "value": line.rows()[0]}),
            (asking.reaches, {"curve": line, "limit": limit}),
            (asking.where, {"curve": line, "test": lambda cell: cell.time.slope}), (asking.least, {"curve": line}),
            (asking.greatest, {"curve": line}), (asking.falls, {"curve": line}),
            (asking.unlike, {"one": line, "other": curve(one, ())}),
            (asking.slower, {"one": line, "other": curve(one, ())}), (asking.pulls, {"program": one, "speeds": ()}),
            (choice, {"program": one, "offers": rows, "limit": limit}),
            (too_late, {"program": one, "offers": rows, "limit": number(6), "price": 3}),
            (shows_too_late, {"program": one, "offers": rows, "limit": number(6), "price": 3, "value": late}),
            (texts.show_number, {"number": limit}), (texts.read_number, {"text": "17/2"}),
            (texts.show_line, {"line": line.cells[3].time}), (texts.read_line, {"text": "5 + 8s"}),
            (texts.show_stretch, {"stretch": line.cells[3].stretch}), (texts.read_stretch, {"text": "(0 1]"}),
            (texts.show_curve, {"curve": line}), (texts.show_run, {"run": plain}),
            (Number, {"top": 6, "bottom": -4}), (Line, {"base": Number(1), "slope": limit}),
            (Stretch, {"low": Number(1), "high": limit}), (programs.Program, {"text": one.text}),
            (line.cells[0].run, {"s": Number(0)}), (line.speeds, {"s": Number(1)}), (line, {"s": Number(1, 3)}),
            (plain.state, {"time": Number(0)}), (plain.account, {"task": "low"}), (plain.time_of, {"index": 1}),
            (Bench(one.text).run, {"speeds": ()}), (Bench(one.text).curve, {"question": asked}),
            (Bench(one.text).tried, {"action": lambda bench: bench.text}), (Desk(one.text).say, {"line": "run"}),
        ]:
            expected = told(function(*args.values()))
            for names in itertools.permutations(args):
                self.assertEqual(told(function(**{name: args[name] for name in names})), expected)
            for many in range(len(args)):
                rest = {name: args[name] for name in reversed(list(args)[many:])}
                self.assertEqual(told(function(*list(args.values())[:many], **rest)), expected)

    def test_question_and_keep_by_name(self):
        one, rows, limit = program(*BOTH), offers("haul 0 1"), number(9)
        asked = question(fetch=(0, 2))
        self.assertEqual(choice(one, rows, limit, question=asked), choice(one, rows, limit, **{"question": asked}))
        found = choice(question=asked, limit=limit, offers=rows, program=one)
        self.assertEqual(found, choice(one, rows, limit, question=asked))
        found = too_late(price=1, question=asked, limit=number(1), offers=rows, program=one)
        self.assertEqual(found, too_late(one, rows, number(1), 1, question=asked))
        self.assertIs(shows_too_late(
            value=found, question=asked, price=1, limit=number(1), program=one, offers=rows,
        ), True)
        for function, args in [
            (choice, (one, rows, limit)), (too_late, (one, rows, limit, 1)),
            (shows_too_late, (one, rows, limit, 1, None)),
        ]:
            self.assertEqual(function(*args), function(*args, question=()))
            with self.assertRaises(TypeError):
                function(*args, asked)
        bench = Bench(one.text)
        for keep in (False, True):
            bench.tried(keep=keep, action=lambda held: held.edit(text=None, count=0, line=0))
        bench.undo()
        self.refuses_all(NothingToUndo, bench.undo)

    def refuses_all(self, error, action, *args, **more):
        with self.assertRaises(error) as caught:
            action(*args, **more)
        self.assertIs(type(caught.exception), error)

    def test_all_by_name(self):
        plain, state, one, cell = self.objects()
        self.assertEqual(plain.time_of(index=0), Number(0))
        self.assertEqual(plain.state(time=Number(0)).time, Number(0))
        self.assertEqual(plain.first(test=lambda state: True), Number(0))
        self.assertEqual(plain.account(task="low"), plain.account("low"))
        self.assertEqual(len(list(plain.samples(every=Number(3)))), 4)
        self.assertEqual([state.queue(name="pipe"), state.holder(name="door")], [(), None])
        self.assertEqual(state.variable(name="x", task="low"), 0)
        self.assertEqual([one(s=Number(0)), one.speeds(s=Number(0))], [Number(7), speeds(fetch=0)])
        self.assertEqual([cell.time_of(index=0).base, cell.run(s=Number(0)).time], [Number(0), Number(7)])
        self.assertEqual(cell.account(task="low"), cell.account("low"))
        rows = one.rows()
        self.assertIs(shows_curve(value=rows, question=one.question, program=one.program), True)
        self.assertIs(shows_cell(value=rows[0], question=one.question, program=one.program), True)
        self.assertIs(shows_run(value=plain.rows(), speeds=(), program=plain.program), True)

    def test_values_stay_as_they_were(self):
        one, asked = program(*DOOR), question(fetch=(0, 2))
        rows = [[1, [2]], {"a": [1]}, ([1], [2]), [run(one).rows()], [curve(one, asked).rows()]]
        for value in rows:
            before = copy.deepcopy(value)
            shows_run(one, (), value), shows_curve(one, asked, value), shows_cell(one, asked, value)
            self.assertEqual(value, before)
        given = speeds(fetch=2)
        run(one, given), asking.pulls(one, given), curve(one, asked)
        self.assertEqual([given, asked], [speeds(fetch=2), question(fetch=(0, 2))])
        self.assertEqual(one, program(*DOOR))
        bench, asked, rows = Bench(one.text), question(fetch=(0, 2)), offers("fetch 0 3", "fetch 2 1")
        bench.edit(0, 0, None)
        bench.run(given), bench.curve(asked), bench.change(asked)
        choice(one, rows, number(8)), too_late(one, rows, number(6), 3)
        self.assertEqual([given, asked], [speeds(fetch=2), question(fetch=(0, 2))])
        self.assertEqual(rows, offers("fetch 0 3", "fetch 2 1"))

    def test_asking_changes_no_curve(self):
        one, other = curve(program(*DOOR), question(fetch=(0, 2))), curve(program(*DOOR), question(fetch=(2, 0)))
        rows = [one.rows(), other.rows()]
        asking.reaches(one, Number(9)), asking.where(one, lambda cell: True), asking.least(one), asking.greatest(one)
        asking.falls(one), asking.unlike(one, other), asking.slower(one, other)
        list(one.borders()), list(one.changes()), [cell.shares() for cell in one.cells]
        self.assertEqual([one.rows(), other.rows()], rows)

    def test_errors_change_nothing(self):
        one = curve(program(*DOOR), question(fetch=(0, 2)))
        rows = one.rows()
        for action in (lambda: one(2), lambda: one[None], lambda: one.cells[0].run(Number(1))):
            with self.assertRaises(NoSpeed):
                action()
        self.assertEqual(one.rows(), rows)
        bench, place = Bench(program(*DOOR).text), Desk(program(*DOOR).text)
        for error, action in [
            (NoLine, lambda: bench.edit(99, 0, None)), (NothingToUndo, bench.undo), (NothingToRedo, bench.redo),
            (BadSpeeds, lambda: bench.run(None)), (BadQuestion, lambda: bench.curve(None)),
            (NothingToUndo, lambda: bench.change(None)), (NothingToUndo, lambda: place.say("undo")),
            (SpeedError, lambda: bench.edit(0, 1, "x")), (SpeedError, lambda: place.say("edit 0 1 x")),
        ]:
            self.assertRaises(error, action)
            self.assertEqual(bench.text, program(*DOOR).text)
            self.assertEqual(place.say("text"), bench.text.replace("\n", " | "))

    def test_sequence_of_errors(self):
        # A question that is none is told ahead of too many cells, and speeds and questions ahead of the value.
        many = program(*MANY)
        with self.assertRaises(TooMany):
            curve(many, question(dig=(0, 9)))
        for value in (question(dig=(0, 9)) * 2, list(question(dig=(0, 9)))):
            self.refuses(BadQuestion, value, curve, many, value)
            self.refuses(BadQuestion, value, shows_curve, many, value, None)
        self.refuses(BadSpeeds, None, shows_run, many, None, None)
        # Offers are told ahead of questions, and both ahead of too many cells.
        wrong, asked = [], question(dig=(0, 9))
        for function, args in [(choice, ()), (too_late, (9,)), (shows_too_late, (9, None))]:
            self.refuses(BadOffers, wrong, function, many, wrong, number(9), *args, question=wrong)
            self.refuses(BadOffers, wrong, function, many, wrong, number(9), *args, question=asked)
            self.refuses(BadQuestion, asked, function, many, offers("dig 1 1"), number(9), *args, question=asked)
        # The line of an edit is told ahead of the count, the count ahead of the text.
        bench = Bench(many.text)
        self.refuses(NoLine, wrong, bench.edit, wrong, None, 5)
        self.refuses(NoLine, wrong, bench.edit, 0, wrong, 5)

    def test_equal_calls_give_equal_results(self):
        one = program(*DOOR)
        asked = question(fetch=(0, 2))
        for call in (
            lambda: run(one).rows(), lambda: run(one).chain(), lambda: run(one).account("high"),
            lambda: curve(one, asked).rows(), lambda: asking.pulls(one, ()),
            lambda: asking.reaches(curve(one, asked), number(9)),
            lambda: asking.least(curve(one, asked)), lambda: asking.greatest(curve(one, asked)),
            lambda: asking.falls(curve(one, question(fetch=(2, 0)))),
            lambda: list(curve(one, asked).changes()), lambda: curve(one, asked).cells[3].shares(),
            lambda: choice(one, offers("fetch 0 3", "fetch 2 1"), number(7)),
            lambda: too_late(one, offers("fetch 0 3", "fetch 2 1"), number(6), 9),
            lambda: Bench(one.text).curve(asked).rows(), lambda: Desk(one.text).say("why"),
            lambda: texts.show_curve(curve(one, asked)), lambda: texts.read_stretch("[0 1/3)"),
        ):
            self.assertEqual(call(), call())
