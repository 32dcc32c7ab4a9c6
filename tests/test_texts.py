"""Section 12: Numbers, Lines and Stretches as texts, show_curve and show_run."""

import itertools
import random
import unittest

from tests.drawn import drawn_program, drawn_question, drawn_speeds
from tests.helpers import STRANGE_DIGITS, STRANGE_LETTERS, STRANGE_SIGNS, any_values
from tests.telling import DOOR, RunCase, amount, number, program, question
from whatspeed.curves import curve
from whatspeed.errors import BadText, TooMany
from whatspeed.exact import Line, Number, Stretch
from whatspeed.runs import run
from whatspeed.texts import (
    read_line, read_number, read_stretch, show_curve, show_line, show_number, show_run, show_stretch,
)

NINES = "9" * 30
LONG = "1" + "0" * 29
TOO_LONG = ["1" + "0" * 30, "9" * 31, "-" + "9" * 31, "1/" + "9" * 31, "9" * 31 + "/2", "1" * 5000, "0" * 40]

NUMBERS = {
    "0": (0, 1), "1": (1, 1), "-1": (-1, 1), "7": (7, 1), "-7": (-7, 1), "10": (10, 1), "100": (100, 1),
    "3/4": (3, 4), "-3/4": (-3, 4), "1/2": (1, 2), "-1/2": (-1, 2), "9/10": (9, 10), "10/9": (10, 9),
    "1/1000": (1, 1000), NINES: (int(NINES), 1), "-" + NINES: (-int(NINES), 1), LONG: (int(LONG), 1),
    f"1/{NINES}": (1, int(NINES)), f"-1/{NINES}": (-1, int(NINES)), f"{NINES}/{LONG}": (int(NINES), int(LONG)),
    f"-{LONG}/{NINES}": (-int(LONG), int(NINES)),
}

# What is near to a number and is none; bare signs are put in and left out below.
NO_NUMBERS = [
    "", "-", "/", "-/", "00", "01", "007", "-01", "-007", "-0", "+1", "+0", "--1", "-+1", "1-", "- 1", " 1", "1 ",
    "1 2", "1 /2", "1/ 2", "1 / 2", "3 /4", "1/", "/2", "-/2", "1/1", "0/1", "-5/1", "7/1", "1/0", "0/0", "-1/0",
    "2/4", "6/4", "-2/4", "4/2", "10/10", "3/3", "0/2", "-0/2", "0/5", "1/-2", "-1/-2", "1/+2", "+1/2", "1/02",
    "01/2", "1/2/3", "1//2", "1/2/", "1.0", "1.5", "0.5", "1,000", "1_000", "1e3", "0x1", "1s", "one", "None", "True",
    "(1)", "[1]", "1\n", "\n1", "1\t", "1\r", "1/2\n", "inf", "nan", "\u22121", "1\u20442",
]

LINES = {
    "0": ("0", "0"), "1": ("1", "0"), "-1": ("-1", "0"), "7": ("7", "0"), "-3/4": ("-3/4", "0"), "1s": ("0", "1"),
    "-1s": ("0", "-1"), "8s": ("0", "8"), "-8s": ("0", "-8"), "3/4s": ("0", "3/4"), "-3/4s": ("0", "-3/4"),
    "5 + 8s": ("5", "8"), "5 - 8s": ("5", "-8"), "-5 + 8s": ("-5", "8"), "-5 - 8s": ("-5", "-8"),
    "5 + 1s": ("5", "1"), "5 - 1s": ("5", "-1"), "-1 + 1s": ("-1", "1"), "1/2 + 1/3s": ("1/2", "1/3"),
    "1/2 - 1/3s": ("1/2", "-1/3"), "-3/4 - 7/2s": ("-3/4", "-7/2"), f"{NINES} + {NINES}s": (NINES, NINES),
    f"-{NINES} - {NINES}s": ("-" + NINES, "-" + NINES), f"1/{NINES} - 1/{NINES}s": (f"1/{NINES}", f"-1/{NINES}"),
    f"-{LONG}s": ("0", "-" + LONG),
}
NO_LINES = [
    "s", "-s", "+s", " s", "0s", "-0s", "+1s", "1 s", "s1", "1S", "1ss", "1s ", " 1s", "5s + 8s", "8s + 5", "5 + 8",
    "5 - 8", "5 8s", "5  8s", "5+8s", "5 +8s", "5+ 8s", "5  + 8s", "5 +  8s", "5 + 8s ", " 5 + 8s", "5 + 8 s",
    "5 + s", "5 - s", "5 + 0s", "5 - 0s", "0 + 8s", "0 - 8s", "0 + 0s", "0 + 0", "5 + -8s", "5 - -8s", "5 + +8s",
    "5 -- 8s", "5 ++ 8s", "5 * 8s", "5 / 8s", "5 = 8s", "5 s 8s", "+ 8s", "- 8s", "5 +", "5 -", "5 + ", "+", "-",
    "05 + 8s", "5 + 08s", "-0 + 8s", "5 + 8/1s", "5/1 + 8s", "5 + 2/4s", "2/4 + 1s", "5 + 8s + 1s", "5 + 8s + 1",
    "5 + 1s\n", "5\n+ 1s", "5\t+ 1s", "5 + 1s5", "5\u00a0+ 1s", "1/2 s", "1s/2", "5 \u2212 8s", "s + 5", "1s + 0",
]

STRETCHES = {
    "[0 1]": ("0", "1", True, True), "(0 1]": ("0", "1", False, True), "[0 1)": ("0", "1", True, False),
    "(0 1)": ("0", "1", False, False), "[0 0]": ("0", "0", True, True), "[-1 -1]": ("-1", "-1", True, True),
    "[1/2 1/2]": ("1/2", "1/2", True, True), "(1/4 5/8)": ("1/4", "5/8", False, False),
    "[-7 -3/4)": ("-7", "-3/4", True, False), "(-1/2 1/2]": ("-1/2", "1/2", False, True),
    f"(-{NINES} {NINES}]": ("-" + NINES, NINES, False, True), f"[0 1/{NINES})": ("0", f"1/{NINES}", True, False),
    "[9 10]": ("9", "10", True, True),
}
NO_STRETCHES = [
    "", "[", "]", "[]", "()", "[ ]", "[0]", "[0 ]", "[ 0]", "[0 1", "0 1]", "0 1", "[0  1]", "[ 0 1]", "[0 1 ]",
    " [0 1]", "[0 1] ", "[0 1]]", "[[0 1]", "[0 1 2]", "[0,1]", "[0, 1]", "[0;1]", "{0 1}", "]0 1[", "[0 1[", "]0 1]",
    "(0 1(", ")0 1)", "[0 1s]", "[0 s]", "[a b]", "[0 01]", "[00 1]", "[-0 1]", "[0 2/4]", "[0 2/2]", "[0/1 1]",
    "[+0 1]", "[0 +1]", "[0 1]\n", "[0\n1]", "[0\t1]", "[0 1/0]", "<0 1>", "[0-1]", "[0 - 1]", "[0 1] [1 2]",
    # Ends that are no Stretch.
    "[1 0]", "(1 0)", "[1/2 1/3]", "[0 -1]", "(0 0]", "[0 0)", "(0 0)", "(1/2 1/2]", "[1/2 1/2)", "[10 9]",
]


def shapes(texts):
    """Texts with one sign put in, left out, or replaced."""
    signs = [*STRANGE_SIGNS, *STRANGE_DIGITS, *STRANGE_LETTERS, "0", "1", " ", "/", "+", "s", "(", "]", "\n"]
    for text in texts:
        for at in range(len(text) + 1):
            for sign in signs:
                yield text[:at] + sign + text[at:]
                yield text[:at] + sign + text[at + 1:]
            yield text[:at] + text[at + 1:]


class TextCase(unittest.TestCase):

    def refused(self, read, value):
        for call in (lambda: read(value), lambda: read(text=value)):
            with self.assertRaises(BadText) as caught:
                call()
            self.assertIs(type(caught.exception), BadText)
            self.assertIs(caught.exception.value, value)

    def both_ways(self, read, show, texts):
        """Whatever is read of these texts is written just so."""
        found = 0
        for text in texts:
            try:
                one = read(text)
            except BadText as error:
                self.assertIs(error.value, text)
            else:
                self.assertEqual(show(one), text)
                found += 1
        return found


class NumbersTest(TextCase):

    def test_written_and_read(self):
        for text, (top, bottom) in NUMBERS.items():
            one = Number(top, bottom)
            for shown in (show_number(one), show_number(number=one)):
                self.assertEqual(shown, text)
                self.assertIs(type(shown), str)
            for found in (read_number(text), read_number(text=text)):
                self.assertEqual([type(found), found.top, found.bottom], [Number, top, bottom])

    def test_in_lowest_terms(self):
        for top, bottom, text in [(6, 4, "3/2"), (6, -4, "-3/2"), (-4, 2, "-2"), (0, 7, "0"), (0, -7, "0")]:
            self.assertEqual(show_number(Number(top, bottom)), text)

    def test_texts_that_are_none(self):
        for text in NO_NUMBERS + TOO_LONG:
            with self.subTest(text=text):
                self.refused(read_number, text)

    def test_values_of_every_kind(self):
        for value in any_values() + [b"1", ["1"], ("1",), {"1": 1}]:
            if value != "1":
                self.refused(read_number, value)

    def test_near_texts(self):
        found = self.both_ways(read_number, show_number, shapes(["7", "-7", "13/4", "-13/40", "0", "-1/2"]))
        self.assertGreater(found, 50)
        for sign in STRANGE_DIGITS + STRANGE_LETTERS + STRANGE_SIGNS.replace("-", ""):
            for text in (sign, sign + "1", "1" + sign, f"-{sign}", f"1/{sign}", f"1/2{sign}", f"{sign}/2"):
                self.refused(read_number, text)

    def test_all_short_texts(self):
        texts = ["".join(signs) for many in range(6) for signs in itertools.product("-/0126", repeat=many)]
        found = {text for text in texts if is_read(read_number, text)}
        numbers = [Number(top, bottom) for top in range(-66666, 66667) for bottom in (1,)]
        numbers += [Number(top, bottom) for top in range(-666, 667) for bottom in range(1, 667)]
        expected = {show_number(one) for one in numbers}
        self.assertEqual(found, {text for text in expected if len(text) <= 5 and not set(text) - set("-/0126")})


def is_read(read, text):
    try:
        read(text)
    except BadText:
        return False
    return True


class LinesTest(TextCase):

    def test_written_and_read(self):
        for text, (base, slope) in LINES.items():
            one = Line(read_number(base), read_number(slope))
            for shown in (show_line(one), show_line(line=one)):
                self.assertEqual(shown, text)
                self.assertIs(type(shown), str)
            for found in (read_line(text), read_line(text=text)):
                self.assertIs(type(found), Line)
                self.assertEqual(found, one)

    def test_texts_that_are_none(self):
        for text in NO_LINES:
            with self.subTest(text=text):
                self.refused(read_line, text)
        for text in [text for text in NO_NUMBERS + TOO_LONG if text != "1s"]:
            for line in (text, f"{text}s", f"{text} + 1s", f"1 + {text}s", f"1 - {text}s"):
                self.refused(read_line, line)

    def test_values_of_every_kind(self):
        for value in any_values() + [b"1s", ["1s"]]:
            if value != "1":
                self.refused(read_line, value)

    def test_near_texts(self):
        texts = ["5 + 8s", "5 - 1s", "-3/4 - 1/2s", "-1s", "7", "3/2s"]
        self.assertGreater(self.both_ways(read_line, show_line, shapes(texts)), 50)

    def test_drawn(self):
        dice = random.Random(5)
        for _ in range(2000):
            base, slope = [Number(dice.randint(-9, 9), dice.randint(1, 6)) for _ in range(2)]
            one = Line(base, slope)
            self.assertEqual(read_line(show_line(one)), one)


class StretchesTest(TextCase):

    def test_written_and_read(self):
        for text, (low, high, has_low, has_high) in STRETCHES.items():
            one = Stretch(read_number(low), read_number(high), has_low=has_low, has_high=has_high)
            for shown in (show_stretch(one), show_stretch(stretch=one)):
                self.assertEqual(shown, text)
                self.assertIs(type(shown), str)
            for found in (read_stretch(text), read_stretch(text=text)):
                self.assertIs(type(found), Stretch)
                self.assertEqual(found, one)
                self.assertEqual([found.has_low, found.has_high], [has_low, has_high])

    def test_texts_that_are_none(self):
        for text in NO_STRETCHES + NO_LINES:
            with self.subTest(text=text):
                self.refused(read_stretch, text)
        for text in NO_NUMBERS + TOO_LONG:
            for stretch in (f"[{text} {text}]", f"[{text} {NINES}]", f"[-{NINES} {text}]"):
                self.refused(read_stretch, stretch)

    def test_values_of_every_kind(self):
        for value in any_values() + [b"[0 1]", ["[0 1]"]]:
            self.refused(read_stretch, value)

    def test_near_texts(self):
        texts = ["[0 1]", "(-1/2 3/4]", "[7 7]", "[-1 10)"]
        self.assertGreater(self.both_ways(read_stretch, show_stretch, shapes(texts)), 30)


class ShowCurveTest(RunCase):

    def test_lines(self):
        one = curve(program(*DOOR), question(fetch=(0, 2)))
        text = (
            "[0 0] done 7\n(0 1/4) done 7\n[1/4 1/4] done 7\n(1/4 5/8) done 5 + 8s\n[5/8 5/8] done 10\n"
            "(5/8 1] done 5 + 8s"
        )
        self.assertEqual(show_curve(one), text)
        self.assertEqual(show_curve(curve=one), text)

    def test_signs_and_outcomes(self):
        one = program("part dig", "task one 1; work 3 dig; wait one")
        self.assertEqual(show_curve(curve(one, question(dig=(2, 1)))), "[0 1] stuck 6 - 3s")
        self.assertEqual(show_curve(curve(one, question(dig=("1/2", "2/3")))), "[0 1] stuck 3/2 + 1/2s")
        self.assertEqual(show_curve(curve(one, question(dig=(0, "1/3")))), "[0 0] stuck 0\n(0 1] stuck 1s")
        self.assertEqual(show_curve(curve(one, ())), "[0 1] stuck 3")

    def test_drawn(self):
        for at in range(60):
            try:
                one = curve(drawn_program(at), drawn_question(at))
            except TooMany:
                continue
            rows = [f"{show_stretch(cell.stretch)} {cell.outcome} {show_line(cell.time)}" for cell in one.cells]
            self.assertEqual(show_curve(one).split("\n"), rows)
            for row, cell in zip(rows, one.cells):
                low, high, outcome, time = row.split(" ", 3)
                self.assertEqual(read_stretch(f"{low} {high}"), cell.stretch)
                self.assertEqual([outcome, read_line(time)], [cell.outcome, cell.time])


class ShowRunTest(RunCase):

    def test_lines(self):
        one = run(program("part dig", "task one 1; work 3 dig; say 7"), (("dig", number("1/2")),))
        text = "0 run one 0\n0 step one 4\n3/2 over one 4\n3/2 step one 5\n3/2 end one 3\ndone 3/2"
        self.assertEqual(show_run(one), text)
        self.assertEqual(show_run(run=one), text)

    def test_no_events(self):
        self.assertEqual(show_run(run(program("task one 1 later; say 1"))), "done 0")

    def test_other_outcomes(self):
        self.assertEqual(show_run(run(program("task one 1; wait one"))), "0 run one 0\n0 step one 3\nstuck 0")
        self.assertEqual(
            show_run(run(program("lock a", "task one 1; sleep 2; unlock a"))),
            "0 run one 0\n0 step one 4\n2 wake one 4\n2 run one 0\n2 step one 5\nfault 2",
        )

    def test_drawn(self):
        for at in range(60):
            one = run(drawn_program(at), drawn_speeds(at))
            *rows, last = show_run(one).split("\n")
            self.assertEqual(last, f"{one.outcome} {amount(one.time)}")
            self.assertEqual(rows, [
                f"{amount(one.time_of(index))} {word} {task} {line}"
                for index, (word, task, line) in enumerate(one.events)
            ])
