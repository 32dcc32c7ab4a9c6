"""Section 5: the forms of lines, their numbers and their signs."""

from tests.helpers import (
    AT, EVERY_FORM, KEPT, STRANGE_DIGITS, STRANGE_LETTERS, STRANGE_SIGNS, ProgramCase, any_values, around,
)
from whatspeed.errors import BadProgram, Unnamed
from whatspeed.programs import Program

# The text ahead of a number and behind it, its bounds, and where the line stands.
NUMBERED_HEAD = [("cores ", "", 1, 3, 0), ("slice ", "", 0, 20, 1)]
NUMBERED_DECLARATIONS = [("queue a ", "", 1, 4), ("cell a ", "", 0, 999)]
NUMBERED_TASKS = [("task a ", "", 1, 9), ("task a ", " later", 1, 9)]
NUMBERED_STATEMENTS = [("work ", "", 0, 99), ("work ", " fetch", 0, 99), ("sleep ", "", 0, 99)]

WRONG_NUMBERS = [
    "", "00", "01", "007", "+1", "-1", "-0", "+0", "1_0", "_1", "1.0", "1.", "1e0", "0x1", "0b1", "1l", "x", "one",
    "1" * 5000, "0" * 5000, "9" * 20000, "-" + "1" * 5000, "1 1", "( 1 )", "1 + 1", "\u4e00",
    *STRANGE_DIGITS, *["1" + sign for sign in STRANGE_DIGITS + STRANGE_SIGNS + STRANGE_LETTERS],
    *[sign + "1" for sign in STRANGE_DIGITS + STRANGE_SIGNS + STRANGE_LETTERS],
]

WRONG_NAMES = [
    "", "abcdefghi", "a" * 5000, "a1", "1a", "aB", "Lock", "a-b", "a_b", "_", "__", "=", "(", ")", "+", "<", "1", "999",
    *STRANGE_LETTERS, *["a" + sign for sign in STRANGE_LETTERS + STRANGE_SIGNS + STRANGE_DIGITS], *KEPT,
]


class NumbersInLinesTest(ProgramCase):

    def check_numbers(self, begin, rest, low, high, lines_with, at):
        for number in range(low, high + 1):
            self.stands(lines_with(f"{begin}{number}{rest}"))
        for number in (low - 1, high + 1, high + 10, 10 * high + 10, 1000, 10 ** 30):
            with self.subTest(begin, rest=rest, number=number):
                self.is_bad(at, lines_with(f"{begin}{number}{rest}"))
        for word in [*WRONG_NUMBERS, f"0{high}", f"0{low}"]:
            with self.subTest(begin, rest=rest, word=word[:9]):
                self.is_bad(at, lines_with(f"{begin}{word}{rest}"))

    def test_cores_and_slice(self):
        for begin, rest, low, high, at in NUMBERED_HEAD:
            lines = ["cores 1", "slice 0", "task one 1", "say 1"]
            self.check_numbers(begin, rest, low, high, lambda row: [*lines[:at], row, *lines[at + 1:]], at)

    def test_queue_and_cell(self):
        for begin, rest, low, high in NUMBERED_DECLARATIONS:
            for head in (["cores 1", "slice 0"], ["cores 1", "slice 0", "part b", "lock c"]):
                self.check_numbers(
                    begin, rest, low, high, lambda row: [*head, row, "lock d", "task one 1", "say 1"], len(head),
                )

    def test_task(self):
        for begin, rest, low, high in NUMBERED_TASKS:
            self.check_numbers(
                begin, rest, low, high, lambda row: ["cores 1", "slice 0", row, "say 1", "task b 1", "say 1"], 2,
            )
            self.check_numbers(
                begin, rest, low, high, lambda row: ["cores 1", "slice 0", "task b 1", "say 1", row, "say 1"], 4,
            )

    def test_work_and_sleep(self):
        for begin, rest, low, high in NUMBERED_STATEMENTS:
            self.check_numbers(begin, rest, low, high, around, AT)

    def test_repeat(self):
        self.check_numbers("repeat ", "", 0, 50, lambda row: around(row, "end"), AT)
        for word in ("x", "count", "( 2 )", "1 + 1"):
            self.is_bad(AT, around(f"repeat {word}", "end"))

    def test_numbers_at_both_bounds(self):
        head = ["cores 3", "slice 20", "queue a 1", "queue b 4", "cell c 0", "cell d 999", "part p"]
        self.stands([*head, "task one 1", "work 0", "work 99 p", "sleep 0", "sleep 99", "task two 9 later", "say 999"])


class FormsTest(ProgramCase):

    def test_every_form_stands(self):
        program = self.stands(EVERY_FORM)
        self.assertEqual([program.parts, program.tasks], [("fetch",), ("one", "two")])

    def test_lines_that_are_no_declaration(self):
        for row in (
            "lock", "lock a b", "lock a lent lent", "lock a lend", "lock lent", "lock a b lent", "lent a", "lock a 1",
            "lock a later", "queue a", "queue a 1 2", "queue 1 a", "queue 1", "queue", "queue a b", "cell a",
            "cell a 1 1", "cell 1 a", "cell a x", "cell", "cell a -1", "part", "part a b", "part a 1", "part 1",
            "task", "task a", "task 1 a", "task 1", "task a 1 late", "task a 1 later later", "task a later",
            "task a 1 2", "task a later 1", "task a 1 lent", "later", "later a 1", "Lock a", "LOCK a", "name", "x",
            "1", "", "=", "a = 1", "work 1", "say 1", "sleep 1", "if 1", "end", "else", "repeat 1", "while 0",
            "unlock a", "put a 1", "take a x", "start one", "wait one", "cores 1", "slice 0", "cores", "slice",
            "lock a\x00", "lock  a", "#", "part a # fetch",
        ):
            with self.subTest(row):
                self.is_bad(2, ["cores 1", "slice 0", row, "task one 1", "say 1"])
                self.is_bad(4, ["cores 1", "slice 0", "lock c", "part d", row, "task one 1", "say 1"])

    def test_lines_that_are_no_statement(self):
        for row in (
            "work", "work x", "work 1 x y", "work 1 2", "work fetch", "work fetch 1", "work 1 fetch fetch", "x =",
            "x", "x 1", "= 1", "=", "x = = 1", "x == 1", "x=1", "x= 1", "x =1", "1 = x", "x = y = 1 = 2", "x , y = 1",
            "x + 1", "x += 1", "x := 1", "if", "if else", "if =", "iff 1", "else 1", "else x", "else if 1", "elif 1",
            "end 1", "end if", "while", "while =", "repeat", "repeat 1 2", "repeat x", "lock", "lock door door",
            "lock door lent", "lock 1", "unlock", "unlock door door", "unlock 1", "put", "put line", "put 1",
            "put 1 1", "put 1 line", "put line 1 1", "put line =", "take", "take line", "take line 1",
            "take line x y", "take 1 x", "take x + 1", "sleep", "sleep x", "sleep 1 2", "sleep 1 fetch", "start",
            "start two two", "start 1", "wait", "wait two two", "wait 1", "wait two 1", "say", "say 1 1", "say x y",
            "say =", "call a", "door", "cores 1", "slice 0", "queue a 1", "cell a 1", "part a", "lock a lent", "lent",
            "later", "task", "task a", "task a b", "Say 1", "SAY 1", "pass", "1", "#", "", "say 1 # x", "end end",
            "else end",
        ):
            with self.subTest(row):
                # Just behind the line of the task, and further on.
                self.is_bad(AT, around(row))
                self.is_bad(AT + 2, around("say 1", "if 1", row, "end"))

    def test_sequence_of_the_head(self):
        for at, lines in (
            (0, ["slice 0", "cores 1", "task one 1", "say 1"]),
            (0, ["slice 0", "task one 1", "say 1"]),
            (0, ["task one 1", "say 1"]),
            (0, ["lock a", "cores 1", "slice 0", "task one 1", "say 1"]),
            (1, ["cores 1", "task one 1", "say 1"]),
            (1, ["cores 1", "cores 1", "slice 0", "task one 1", "say 1"]),
            (1, ["cores 1", "lock a", "slice 0", "task one 1", "say 1"]),
            (1, ["cores 1", "say 1"]),
            (2, ["cores 1", "slice 0", "slice 0", "task one 1", "say 1"]),
            (2, ["cores 1", "slice 0", "cores 1", "task one 1", "say 1"]),
            (2, ["cores 1", "slice 0", "say 1", "task one 1", "say 1"]),
            (3, ["cores 1", "slice 0", "lock a", "slice 0", "task one 1", "say 1"]),
            (3, ["cores 1", "slice 0", "lock a", "cores 1", "task one 1", "say 1"]),
        ):
            with self.subTest(lines=lines):
                self.is_bad(at, lines)

    def test_wrong_head(self):
        rest = ["slice 0", "task one 1", "say 1"]
        for row in ("cores", "cores 1 1", "core 1", "Cores 1", "1", "", "cores one", "cores 1 cores", "cores=1"):
            self.is_bad(0, [row, *rest])
        rest = ["task one 1", "say 1"]
        for row in ("slice", "slice 1 1", "slices 1", "Slice 1", "1", "", "slice one", "slice 1 slice", "slice=1"):
            self.is_bad(1, ["cores 1", row, *rest])

    def test_declarations_in_any_sequence(self):
        rows = ["lock a", "lock b lent", "queue c 1", "cell d 5", "part e"]
        for turn in range(5):
            head = [*rows[turn:], *rows[:turn]]
            self.stands(["cores 1", "slice 0", *head, "task one 1", "say 1"])
            self.stands(["cores 1", "slice 0", *reversed(head), "task one 1", "say 1"])

    def test_declarations_behind_the_first_task(self):
        for row in ("queue a 1", "cell a 1", "part a", "lock a lent"):
            self.is_bad(AT, around(row))
            self.is_bad(AT + 1, around("say 1", row))
            self.is_bad(AT + 1, around("say 1", row, "say 1"))
        # This one is a statement there, and names a lock.
        self.fails(Unnamed, AT, around("lock a"))
        self.stands(around("lock door"))

    def test_lent_makes_no_declaration_of_a_statement(self):
        self.is_bad(AT + 1, around("lock door", "lock door lent"))


class SignsTest(ProgramCase):

    def test_blanks(self):
        for at, row in enumerate(EVERY_FORM):
            changed = [" " + row, row + " ", "  " + row, row + "  ", row.upper(), row.replace(" ", "")]
            if " " in row:
                changed.append(row.replace(" ", "  ", 1))
                changed.append("  ".join(row.rsplit(" ", 1)))
            else:
                changed.remove(row.replace(" ", ""))
            for wrong in changed:
                with self.subTest(wrong):
                    self.is_bad(at, [*EVERY_FORM[:at], wrong, *EVERY_FORM[at + 1:]])

    def test_strange_signs(self):
        for at, row in enumerate(EVERY_FORM):
            for sign in STRANGE_SIGNS:
                changed = [sign + row, row + sign, row + " " + sign]
                if " " in row:
                    changed.append(row.replace(" ", sign, 1))
                for wrong in changed:
                    with self.subTest(wrong):
                        self.is_bad(at, [*EVERY_FORM[:at], wrong, *EVERY_FORM[at + 1:]])

    def test_empty_lines(self):
        for at in range(len(EVERY_FORM) + 1):
            for row in ("", " ", "\t"):
                with self.subTest(at, row=row):
                    self.is_bad(at, [*EVERY_FORM[:at], row, *EVERY_FORM[at:]])

    def test_only_line_feeds_join_lines(self):
        for sign in ("\r\n", "\r", "\x0b", "\x0c", "\x1c", "\x1d", "\x1e", "\x85", "\u2028", "\u2029", " ", "\\n"):
            text = "\n".join(["cores 1", "slice 0", "task one 1", "say 1" + sign + "say 2"])
            self.fails_text(BadProgram, 3, text)
            self.fails_text(BadProgram, 0, sign.join(["cores 1", "slice 0", "task one 1", "say 1"]))


class NamesTest(ProgramCase):

    def templates(self):
        """Functions from a name to lines, with the line in which the name stands."""
        head = ["cores 1", "slice 0"]
        for begin, rest in (("lock ", ""), ("lock ", " lent"), ("queue ", " 1"), ("cell ", " 1"), ("part ", "")):
            yield 2, lambda word, b=begin, r=rest: [*head, f"{b}{word}{r}", "task t 1", "say 1"]
        for rest in (" 1", " 1 later"):
            yield 2, lambda word, r=rest: [*head, f"task {word}{r}", "say 1", "task t 1", "say 1"]
            yield 4, lambda word, r=rest: [*head, "task t 1", "say 1", f"task {word}{r}", "say 1"]
        for begin, rest in (
            ("work 1 ", ""), ("", " = 1"), ("lock ", ""), ("unlock ", ""), ("put ", " 1"), ("take ", " x"),
            ("take line ", ""), ("start ", ""), ("wait ", ""),
        ):
            yield AT, lambda word, b=begin, r=rest: around(f"{b}{word}{r}")

    def test_names(self):
        for at, lines_with in self.templates():
            for word in ("a", "z", "abcdefgh", "zyxwvuts", "ijklmnop", "qrstuvwx", "yz", "cor", "locks", "lents", "ta"):
                with self.subTest(lines_with(word)[at]):
                    self.assertTrue(self.has_form(lines_with(word)))

    def test_every_letter(self):
        for sign in "abcdefghijklmnopqrstuvwxyz":
            for word in (sign, sign * 8, "a" + sign + "q"):
                self.stands(["cores 1", "slice 0", f"part {word}", "task tt 1", f"work 1 {word}"])
                self.stands(["cores 1", "slice 0", "task tt 1", f"{word} = {word} + 1"])

    def test_wrong_names(self):
        for at, lines_with in self.templates():
            for word in WRONG_NAMES:
                with self.subTest(lines_with(word)[at][:40]):
                    self.is_bad(at, lines_with(word))

    def test_declared_names_of_eight_letters(self):
        self.stands([
            "cores 1", "slice 0", "lock abcdefgh", "queue abcdefgi 1", "cell abcdefgj 1", "part abcdefgk",
            "task abcdefgl 1", "work 1 abcdefgk", "lock abcdefgh", "unlock abcdefgh", "put abcdefgi abcdefgj",
            "take abcdefgi abcdefgm", "wait abcdefgl",
        ])


class EndsTooEarlyTest(ProgramCase):

    def test_no_string(self):
        for value in any_values():
            if not isinstance(value, str):
                with self.subTest(value=value):
                    self.fails_text(BadProgram, 0, value)
        self.fails_text(BadProgram, 0, ["cores 1", "slice 0", "task one 1", "say 1"])
        self.fails_text(BadProgram, 0, ("cores 1\nslice 0\ntask one 1\nsay 1",))
        self.fails_text(BadProgram, 0, Program("cores 1\nslice 0\ntask one 1\nsay 1"))

    def test_what_is_handed_in_stays_as_it_was(self):
        value = ["cores 1", {"a": [2]}]
        self.fails_text(BadProgram, 0, value)
        self.assertEqual(value, ["cores 1", {"a": [2]}])

    def test_empty_and_short_texts(self):
        for text, line in (
            ("", 0), ("\n", 0), ("\n\n\n", 0), (" ", 0), ("cores 1", 1), ("cores 1\n", 1), ("cores 4", 0),
            ("cores 1\nslice 0", 2), ("cores 1\nslice 0\n", 2), ("cores 1\nslice 0\nlock a", 3),
            ("cores 1\nslice 0\nlock a\npart b\ncell c 1", 5), ("cores 1\nslice 21", 1),
            ("cores 1\nslice 0\nlock a\npart b\n", 4),
        ):
            with self.subTest(text):
                self.fails_text(BadProgram, line, text)

    def test_a_line_feed_at_the_end(self):
        text = "\n".join(EVERY_FORM)
        self.assertEqual(Program(text).text, text)
        self.fails_text(BadProgram, len(EVERY_FORM), text + "\n")
        self.fails_text(BadProgram, len(EVERY_FORM), text + "\n\n")
        self.fails_text(BadProgram, 0, "\n" + text)

    def test_a_very_long_text(self):
        self.fails_text(BadProgram, 0, "\n" * 100000)
        self.fails_text(BadProgram, 0, "cores " * 100000)
        self.fails_text(BadProgram, 3, "cores 1\nslice 0\ntask one 1\n" + "say " * 100000)
        self.fails_text(BadProgram, 80, "cores 1\nslice 0\ntask one 1" + "\nsay 1" * 100000)
