"""Section 13: Desk and say."""

import copy
import random

from tests.benching import LINES, TEXT, depths, drawn_edit, told_error
from tests.choosing import PEAK
from tests.drawn import drawn_program
from tests.helpers import KEPT, STRANGE_DIGITS, STRANGE_LETTERS, STRANGE_SIGNS, any_values
from tests.telling import DOOR, GATE, MANY, CurveCase, program, question, speeds
from tests.test_texts import NO_NUMBERS, TOO_LONG
from whatspeed.asking import falls, reaches
from whatspeed.benches import Bench
from whatspeed.curves import curve
from whatspeed.desk import Desk
from whatspeed.errors import (
    BadLine, BadProgram, BadQuestion, BadSpeeds, Doubled, NoLine, NothingToRedo, NothingToUndo, SpeedError, TooMany,
    Unnamed,
)
from whatspeed.exact import Number
from whatspeed.programs import Program
from whatspeed.runs import run
from whatspeed.texts import show_curve, show_number, show_stretch

NINES = "9" * 30


class DeskCase(CurveCase):

    maxDiff = None

    def says(self, desk, rows):
        """Checks the answers to lines, one behind the other."""
        for line, answer in rows:
            found = desk.say(line)
            self.assertEqual(found, answer, line)
            self.assertIs(type(found), str)

    def is_bad(self, desk, value):
        """Checks that a value has none of the forms, and changes nothing."""
        error = self.stays(desk, BadLine, value)
        self.assertIs(error.value, value)

    def stays(self, desk, error, value):
        """Checks that a line raises this error, changes nothing, and returns the error."""
        before = known(desk)
        with self.assertRaises(error) as caught:
            desk.say(value)
        self.assertIs(type(caught.exception), error)
        self.assertEqual(known(desk), before)
        return caught.exception


class Handle:
    """A desk as a bench, as far as undo and redo go."""

    def __init__(self, desk):
        self.desk = desk

    @property
    def text(self):
        return self.desk.say("text").replace(" | ", "\n")

    def undo(self):
        self.desk.say("undo")

    def redo(self):
        self.desk.say("redo")


def known(desk):
    """What can be undone and made again."""
    return depths(Handle(desk))


def edited():
    """A desk with three edits, the last one of which was taken back."""
    desk = Desk(TEXT)
    for line in ("edit 7 1 say 2", "edit 7 1 say 3", "edit 7 1 say 4", "undo"):
        desk.say(line)
    return desk


class NewTest(DeskCase):

    def test_text(self):
        for desk in (Desk(TEXT), Desk(text=TEXT)):
            self.assertEqual(desk.say("text"), " | ".join(LINES))
            self.assertEqual(known(desk), (0, [TEXT]))

    def test_values_of_every_kind(self):
        for value in [*any_values(), "cores 1\nslice 0\ntask one 1", TEXT + "\n", Bench(TEXT), Desk(TEXT)]:
            with self.assertRaises(SpeedError) as expected:
                Program(value)
            with self.assertRaises(SpeedError) as caught:
                Desk(value)
            self.assertEqual(told_error(caught.exception), told_error(expected.exception))

    def test_by_name(self):
        self.assertEqual(Desk(TEXT).say(line="run"), "done 10 one:1")


class AnswersTest(DeskCase):

    def test_edits(self):
        desk = Desk(TEXT)
        self.says(desk, [
            ("edit 7 1 say 2", "done"), ("text", " | ".join([*LINES[:7], "say 2"])),
            ("edit 5 2 -", "done"), ("text", " | ".join([*LINES[:5], "say 2"])),
            ("edit 6 0 say 3 | say 4 | say 5", "done"),
            ("text", " | ".join([*LINES[:5], "say 2", "say 3", "say 4", "say 5"])),
            ("undo", "done"), ("undo", "done"), ("text", " | ".join([*LINES[:7], "say 2"])),
            ("redo", "done"), ("text", " | ".join([*LINES[:5], "say 2"])),
            ("edit 0 0 -", "done"), ("text", " | ".join([*LINES[:5], "say 2"])),
            ("undo", "done"), ("undo", "done"), ("undo", "done"), ("text", " | ".join(LINES)),
        ])

    def test_all_lines(self):
        desk = Desk(TEXT)
        self.says(desk, [
            ("edit 0 8 cores 2 | slice 1 | task tri 3 | x = ( 1 + 2 ) * 3 | say x - 1", "done"),
            ("text", "cores 2 | slice 1 | task tri 3 | x = ( 1 + 2 ) * 3 | say x - 1"), ("run", "done 0 tri:8"),
        ])

    def test_run(self):
        desk = Desk(program("part dig", "part haul", "task one 1; work 3 dig; say 7; work 2 haul; say 8").text)
        self.says(desk, [
            ("run", "done 5 one:7 one:8"), ("run dig 0", "done 2 one:7 one:8"),
            ("run dig 1/3", "done 3 one:7 one:8"), ("run dig 1/2 haul 3/4", "done 3 one:7 one:8"),
            ("run haul 5/4", "done 11/2 one:7 one:8"), ("run dig 9 haul 9", "done 45 one:7 one:8"),
        ])
        self.says(Desk(program("task one 1; work 3; wait one").text), [("run", "stuck 3")])
        self.says(Desk(program("lock a", "task one 1; say 0; unlock a").text), [("run", "fault 0 one:0")])
        self.says(Desk(program("task one 1; while 1; work 1; end").text), [("run", "long 100")])
        self.says(Desk(program("cores 2", "task one 1; say 1; work 1; say 2", "task two 1; say 3").text), [
            ("run", "done 1 one:1 two:3 one:2"),
        ])

    def test_why(self):
        desk = Desk(program(*DOOR).text)
        self.says(desk, [
            ("why", "work high 12 2; work low 7 2; sleep high 10 5"),
            ("why fetch 3/2", "work low 7 3; work low 5 1; work high 12 2; sleep high 10 5"),
            ("why fetch 9/8", "work high 12 2; work low 7 5/2; sleep high 10 5"),
        ])
        self.says(Desk(program("task one 1; say 1").text), [("why", "-")])
        self.says(Desk(program("task one 1 later; work 5").text), [("why", "-")])
        self.says(Desk(program("slice 2", "task one 1; work 3", "task two 1; work 3").text), [
            ("why", "work two 5 1; work one 3 1; slice two 5 2; slice one 3 2"),
        ])

    def test_curve(self):
        desk = Desk(program(*DOOR).text)
        self.says(desk, [
            ("curve fetch 0 2", (
                "[0 0] done 7; (0 1/4) done 7; [1/4 1/4] done 7; (1/4 5/8) done 5 + 8s; [5/8 5/8] done 10; "
                "(5/8 1] done 5 + 8s"
            )),
            ("curve", "[0 1] done 9"), ("curve fetch 1 1", "[0 1] done 9"),
            ("curve fetch 9/8 5/4", "[0 1) done 19/2 + 1/2s; [1 1] done 10"),
        ])

    def test_by(self):
        self.says(Desk(program(*DOOR).text), [
            ("by 8 fetch 0 2", "[0 3/8]"), ("by 6 fetch 0 2", "-"), ("by 9", "[0 1]"), ("by 8", "-"),
            ("by 17/2", "-"), ("by 19/2 fetch 0 2", "[0 9/16]"), ("by -1 fetch 0 2", "-"), ("by 0", "-"),
            ("by -3/4", "-"), (f"by {NINES} fetch 0 2", "[0 1]"), (f"by -{NINES}", "-"),
        ])
        self.says(Desk(program(*GATE).text), [
            ("by 50 fetch 0 2", "[5/8 1]"), ("by 72 fetch 0 2", "[0 0] [5/8 1]"),
            ("by 74 fetch 0 2", "[0 1/4] [5/8 1]"),
        ])

    def test_falls(self):
        self.says(Desk(program(*DOOR).text), [
            ("falls", "no"), ("falls fetch 0 2", "no"), ("falls fetch 2 0", "yes"), ("falls fetch 1 1", "no"),
        ])
        self.says(Desk(program(*GATE).text), [("falls fetch 0 2", "yes"), ("falls fetch 1 2", "yes"), ("falls", "no")])

    def test_change(self):
        desk = Desk(TEXT)
        self.says(desk, [
            ("edit 5 1 work 6", "done"), ("change dig 0 2", "[0 3/4) / -"), ("change dig 2 0", "(1/4 1] / -"),
            ("change", "[0 1] / -"), ("change dig 9/4 5/2", "- / -"), ("edit 7 1 say 2", "done"),
            ("change", "- / [0 1]"), ("change haul 1 2", "- / [0 1]"), ("edit 0 0 -", "done"), ("change", "- / -"),
            ("undo", "done"), ("change", "- / [0 1]"), ("edit 5 3 work 99", "done"),
            ("change dig 0 1", "[0 1] / [0 1]"),
        ])

    def test_change_with_several_stretches(self):
        desk = Desk(program("cores 2", "part dig", "part haul", "task one 1; work 9", "task two 1; work 9").text)
        self.says(desk, [
            ("edit 5 3 work 6 dig | task two 1 | work 6 haul", "done"),
            ("change dig 0 2 haul 2 0", "[0 1/4) (3/4 1] / -"),
        ])
        desk = Desk(program(*PEAK[:6], "task two 1; work 2; if a = b; say 9; end", PEAK[7]).text)
        self.says(desk, [("edit 12 1 x = 9", "done"), ("change dig 0 2", "- / [0 1/2) (1/2 1]")])

    def test_rows_of_parts(self):
        desk = Desk(program("part dig", "part haul", "part pave", "task one 1; work 1 dig; work 2 haul; work 4").text)
        self.says(desk, [
            ("run dig 2 haul 3 pave 4", "done 12"), ("run dig 2 pave 4", "done 8"), ("run pave 0", "done 7"),
            ("curve dig 0 1 haul 1 0", "[0 0] done 6; (0 1) done 6 - 1s; [1 1] done 5"),
            ("curve dig 1 2 haul 1 2 pave 0 9", "[0 1] done 7 + 3s"), ("by 8 dig 1 2 haul 1 2", "[0 1/3]"),
            ("falls dig 2 1 haul 1 2", "no"), ("falls dig 9 1 haul 1 2", "yes"),
            ("why dig 2 haul 1/2 pave 0", "work one 8 4; work one 7 1; work one 6 2"),
        ])


def told(stretches):
    return " ".join(show_stretch(stretch) for stretch in stretches) or "-"


def names_badly(words):
    """SPEED or ASK with other numbers of words, names that are none, and parts that are not ascending."""
    dig, haul, pave = [" ".join([part, *words]) for part in ("dig", "haul", "pave")]
    few = " ".join(["dig", *words[1:]])
    rows = [
        "dig", few, f"{few} {haul}", f"{dig} haul", f"{dig} 1", f"{dig} {few}", " ".join(words), f"1 {dig}",
        f"{haul} {dig}", f"{pave} {haul}", f"{dig} {pave} {haul}", f"{dig} {dig}", f"{dig} {haul} {haul}",
        f"{dig} {haul} {dig}", f"{dig},", f"{dig} ;", "- " + " ".join(words), f"{dig} -", "-",
    ]
    names = [*KEPT, "Dig", "DIG", "dig1", "di-g", "d g", "digdigdig", "1", "'dig'", "dig:", "|", *STRANGE_LETTERS]
    named = [" ".join([name, *words]) for name in names]
    return rows + named + [f"{dig} {row}" for row in named]


class BadLinesTest(DeskCase):

    def test_values_of_every_kind(self):
        desk = edited()
        for value in [*any_values(), [["undo"]], ["undo"], ("undo",), {"undo": 1}, b"undo", Desk(TEXT), Bench(TEXT)]:
            if value != "text":
                self.is_bad(desk, value)

    def test_values_stay_as_they_were(self):
        for value in (["undo", [1]], {"undo": [1]}, (["undo"],)):
            before = copy.deepcopy(value)
            self.is_bad(edited(), value)
            self.assertEqual(value, before)

    def test_words_that_begin_no_line(self):
        desk = edited()
        for line in [
            "", "-", "|", "done", "Undo", "UNDO", "undoes", "und", "u", "runs", "say", "say 1", "edits 0 0 -", "whys",
            "reaches 5", "program", "trial", "keep", "cores 1", "1", "0", "by", "edit",
        ]:
            self.is_bad(desk, line)

    def test_blanks(self):
        desk = edited()
        for line in [
            "undo", "redo", "text", "run", "run dig 2", "why", "why dig 2", "curve", "curve dig 0 2", "by 8",
            "by 8 dig 0 2", "falls", "falls dig 0 2", "change dig 0 2", "edit 7 1 say 2", "edit 7 1 -",
            "edit 7 1 say 2 | say 3",
        ]:
            for other in (" " + line, line + " ", "  " + line, line + "  "):
                self.is_bad(desk, other)
            for at, sign in enumerate(line):
                if sign == " ":
                    self.is_bad(desk, line[:at] + " " + line[at:])
                    for strange in STRANGE_SIGNS.replace("-", "") if at < 5 else ():
                        self.is_bad(desk, line[:at] + strange + line[at + 1:])

    def test_line_feeds(self):
        desk = edited()
        for line in ["undo", "run", "run dig 2", "edit 7 1 say 2", "edit 7 1 -", "edit 7 1 say 2 | say 3", "by 8"]:
            for at in range(len(line) + 1):
                self.is_bad(desk, line[:at] + "\n" + line[at:])
                self.is_bad(desk, line[:at] + "\n" + line[at + 1:])
        for line in ["edit 7 1 say 2\nsay 3", "edit 7 1 say 2 \n say 3", "edit 7 1 say 2 | say 3\n", "edit 7 1 \n"]:
            self.is_bad(desk, line)

    def test_too_many_words(self):
        desk = edited()
        for word in ("undo", "redo", "text"):
            for more in ("1", "-", "|", word, "dig 1", "fetch 0 2"):
                self.is_bad(desk, f"{word} {more}")

    def test_lines_and_counts(self):
        desk = edited()
        for line in ["edit", "edit 0", "edit 7", "edit 7 1", "edit 0 0", "edit - -", "edit -", "edit say 2"]:
            self.is_bad(desk, line)
        for word in [
            "-", "-1", "+1", "01", "00", "007", "1.0", "1/2", "7/1", "a", "x", "seven", "1e3", "|", "None", "True",
            "1_0", "1234567890", "0123456789", "1000000000", "0" * 9, "0" * 10, "9" * 10, "9" * 30,
            "1" * 5000, "(1)", "1,",
            *STRANGE_DIGITS, *[digit + "1" for digit in STRANGE_DIGITS], *["1" + digit for digit in STRANGE_DIGITS],
            *[f"1{sign}" for sign in STRANGE_SIGNS], *[f"{sign}1" for sign in STRANGE_SIGNS],
        ]:
            for line in (f"edit {word} 0 say 2", f"edit 0 {word} say 2", f"edit {word} {word} -", f"edit 7 {word} -"):
                self.is_bad(desk, line)

    def test_one_and_nine_digits(self):
        desk = edited()
        for word in ("9", "10", "99", "123456789", "999999999", "100000000"):
            self.assertEqual(self.stays(desk, NoLine, f"edit {word} 0 say 2").value, int(word))
            self.assertEqual(self.stays(desk, NoLine, f"edit 0 {word} say 2").value, int(word))
            self.assertEqual(self.stays(desk, NoLine, f"edit {word} {word} -").value, int(word))
        self.says(desk, [("edit 0 0 -", "done"), ("edit 8 0 say 9", "done"), ("edit 0 9 " + " | ".join(LINES), "done")])

    def test_bars(self):
        desk = edited()
        for text in [
            "|", "| |", "| | |", "| say 2", "say 2 |", "| say 2 |", "say 2 | | say 3", "say 2 | say 3 |",
            "| say 2 | say 3", "say 2 | | | say 3", "- |", "| -", "- | | -", "say 2 | say 3 | |", "| | say 2",
        ]:
            self.is_bad(desk, f"edit 7 1 {text}")
            self.is_bad(desk, f"edit 99 99 {text}")

    def test_bars_within_words(self):
        # A word with a bar in it is a word of a line, which no program has.
        for text, line in [("say 2|say 3", 7), ("||", 7), ("say 2 | say||3", 8), ("|say 2", 7), ("say 2|", 7)]:
            self.assertEqual(self.stays(edited(), BadProgram, f"edit 7 1 {text}").line, line)

    def test_a_dash_beside_other_words(self):
        for text, line in [
            ("- -", 7), ("- | say 2", 7), ("say 2 | -", 8), ("say -", 7), ("- 2", 7), ("say 2 | - | say 3", 8),
            ("- | -", 7), ("--", 7),
        ]:
            self.assertEqual(self.stays(edited(), BadProgram, f"edit 7 1 {text}").line, line)
        self.says(edited(), [("edit 7 1 say 5 - 2", "done"), ("run", "done 10 one:3"), ("edit 7 1 -", "done")])

    def test_words_of_any_signs(self):
        for sign in STRANGE_SIGNS + STRANGE_LETTERS + STRANGE_DIGITS + "()+*=<>#%&":
            if sign not in "-_":
                self.assertEqual(self.stays(edited(), BadProgram, f"edit 7 1 say 2 | say {sign}").line, 8)
            self.stays(edited(), BadProgram, f"edit 7 1 {sign}{sign}")

    def test_speeds(self):
        desk = edited()
        for row in names_badly(["1"]):
            for word in ("run", "why"):
                self.is_bad(desk, f"{word} {row}")

    def test_questions(self):
        desk = edited()
        for row in names_badly(["0", "1"]):
            for word in ("curve", "by 8", "falls", "change"):
                self.is_bad(desk, f"{word} {row}")

    def test_numbers(self):
        desk = edited()
        for text in NO_NUMBERS + TOO_LONG:
            for line in [
                f"run dig {text}", f"why dig {text}", f"curve dig {text} 1", f"curve dig 1 {text}", f"by {text}",
                f"by {text} dig 0 1", f"by 8 dig {text} 1", f"falls dig 0 {text}", f"change dig {text} 0",
                f"run dig 1 haul {text}", f"curve dig 0 1 haul 0 {text}",
            ]:
                if not (text == "1 2" and line.startswith("by")) and (text or line != f"by {text}"):
                    self.is_bad(desk, line)

    def test_by_without_a_number(self):
        desk = edited()
        for line in [
            "by", "by dig 0 1", "by dig", "by 8 9", "by 8 9 dig 0 1", "by 8 dig", "by 8 dig 0", "by dig 0 1 8",
        ]:
            self.is_bad(desk, line)


class ErrorsTest(DeskCase):
    """Lines that have a form and are refused by the bench or a function."""

    def test_edits(self):
        desk = edited()
        for line, error, told_ in [
            ("edit 9 0 say 2", NoLine, {"value": 9}), ("edit 9 99 say 2", NoLine, {"value": 9}),
            ("edit 8 1 say 2", NoLine, {"value": 1}), ("edit 0 9 -", NoLine, {"value": 9}),
            ("edit 0 8 -", BadProgram, {"line": 0}), ("edit 7 1 say", BadProgram, {"line": 7}),
            ("edit 5 3 -", BadProgram, {"line": 4}), ("edit 7 1 say 2 | say x 2", BadProgram, {"line": 8}),
            ("edit 2 0 part haul", Doubled, {"line": 4}), ("edit 2 1 -", Unnamed, {"line": 4}),
            ("edit 8 0 lock door", Unnamed, {"line": 8}),
        ]:
            self.assertEqual(vars(self.stays(desk, error, line)), told_)

    def test_undo_and_redo(self):
        desk = Desk(TEXT)
        for _ in range(2):
            self.stays(desk, NothingToUndo, "undo")
            self.stays(desk, NothingToRedo, "redo")
        desk.say("edit 0 0 -")
        self.stays(desk, NothingToRedo, "redo")
        desk.say("undo")
        self.stays(desk, NothingToUndo, "undo")

    def test_speeds(self):
        desk = edited()
        for row, value in [
            ("dig 10", speeds(dig=10)), ("dig -1", speeds(dig=-1)), ("dig -3/4", speeds(dig="-3/4")),
            ("dig 9001/1000", speeds(dig="9001/1000")), ("one 1", speeds(one=1)), ("door 1/2", speeds(door="1/2")),
            ("dig 1 haul 10", speeds(dig=1, haul=10)), ("abc 1 dig 1", speeds(abc=1, dig=1)),
            (f"dig {NINES}", speeds(dig=NINES)),
        ]:
            for word in ("run", "why"):
                self.assertEqual(self.stays(desk, BadSpeeds, f"{word} {row}").value, value)

    def test_questions(self):
        desk = edited()
        for row, value in [
            ("dig 0 10", question(dig=(0, 10))), ("dig -1 1", question(dig=(-1, 1))),
            ("dig 1/2 -3/4", question(dig=("1/2", "-3/4"))), ("one 0 1", question(one=(0, 1))),
            ("dig 0 1 haul 0 1 pave 0 1", question(dig=(0, 1), haul=(0, 1), pave=(0, 1))),
        ]:
            for word in ("curve", "by 8", "by -1/2", "falls", "change"):
                self.assertEqual(self.stays(desk, BadQuestion, f"{word} {row}").value, value)

    def test_change_without_an_edit(self):
        desk = Desk(TEXT)
        for line in ("change", "change dig 0 2", "change dig 0 10", "change door 0 1"):
            self.stays(desk, NothingToUndo, line)

    def test_too_many(self):
        desk = Desk(program(*MANY).text)
        desk.say("edit 0 0 -")
        for word in ("curve", "by 8", "falls", "change"):
            self.stays(desk, TooMany, f"{word} dig 0 9")
            self.stays(desk, BadQuestion, f"{word} dig 0 10")

    def test_refused_lines_take_nothing_away(self):
        desk = edited()
        for line in ["edit 9 0 -", "edit 7 1 say", "", "undo 1", "edit 7 1 |", "edit 7 1 say 2\n", None, "run x 1"]:
            self.assertRaises(SpeedError, desk.say, line)
        self.says(desk, [("redo", "done"), ("text", " | ".join([*LINES[:7], "say 4"])), ("undo", "done")])


class BesideBenchTest(DeskCase):

    def test_drawn_rows(self):
        for at in range(30):
            dice = random.Random(at)
            text = drawn_program(at).text
            desk, bench = Desk(text), Bench(text)
            for _ in range(25):
                kind = dice.choice(["edit", "edit", "undo", "redo"])
                if kind == "edit":
                    line, count, new = drawn_edit(dice, bench.text)
                    written = "-" if new is None else new.replace("\n", " | ")
                    self.alike(desk, f"edit {line} {count} {written}", bench.edit, line, count, new)
                else:
                    self.alike(desk, kind, getattr(bench, kind))
                self.assertEqual(desk.say("text"), bench.text.replace("\n", " | "))
            self.same_answers(desk, bench)
            self.same_answers(desk, Bench(bench.text))
            self.assertEqual(known(desk), depths(bench))

    def alike(self, desk, line, action, *args):
        """Checks that a line does what a call does, or raises what it raises."""
        try:
            action(*args)
        except SpeedError as expected:
            with self.assertRaises(SpeedError) as caught:
                desk.say(line)
            self.assertEqual(told_error(caught.exception), told_error(expected))
        else:
            self.assertEqual(desk.say(line), "done")

    def same_answers(self, desk, bench):
        parts = sorted(bench.program.parts)
        given = tuple((part, Number(1, 2)) for part in parts)
        row = " ".join(f"{part} 1/2" for part in parts)
        for one, line in [(bench.run(), ""), (bench.run(given), " " + row)]:
            outputs = "".join(f" {task}:{value}" for _, task, value in one.outputs)
            self.assertEqual(desk.say(f"run{line}"), f"{one.outcome} {show_number(one.time)}{outputs}")
            links = [f"{word} {task} {at} {show_number(length)}" for word, task, at, length in one.chain()]
            self.assertEqual(desk.say(f"why{line}"), "; ".join(links) or "-")
        asked = tuple((part, Number(1, 2), Number(3, 2)) for part in parts)
        row = "".join(f" {part} 1/2 3/2" for part in parts)
        try:
            one = curve(bench.program, asked)
        except TooMany:
            self.assertRaises(TooMany, desk.say, f"curve{row}")
            return
        self.assertEqual(desk.say(f"curve{row}"), show_curve(one).replace("\n", "; "))
        limit = one(Number(1, 3))
        self.assertEqual(desk.say(f"by {show_number(limit)}{row}"), told(reaches(one, limit)))
        self.assertEqual(desk.say(f"falls{row}"), "no" if falls(one) is None else "yes")
        self.assertEqual(run(bench.program).rows(), run(Program(bench.text)).rows())
