"""Section 5: blocks, tasks, and how many there may be of everything."""

from itertools import product

from tests.helpers import AT, ProgramCase, around

OPENERS = ("if 1", "while 0", "repeat 2")
HEAD = ["cores 1", "slice 0"]


class BlocksTest(ProgramCase):

    def test_empty_blocks(self):
        for row in OPENERS:
            self.stands(around(row, "end"))
            self.stands(around("say 1", row, "end", "say 2"))
        self.stands(around("if 1", "else", "end"))
        self.stands(around("if 1", "else", "say 1", "end"))
        self.stands(around("if 1", "say 1", "else", "end"))

    def test_six_deep(self):
        for row in OPENERS:
            for depth in range(1, 7):
                self.stands(around(*[row] * depth, *["end"] * depth))
                self.stands(around(*[row] * depth, "say 1", *["end", "say 2"] * depth))
            for depth in (7, 8, 9, 20):
                self.is_bad(AT + 6, around(*[row] * depth, *["end"] * depth))
                self.is_bad(AT + 6, around(*[row] * depth))

    def test_six_deep_of_all_kinds(self):
        for rows in product(OPENERS, repeat=3):
            self.stands(around(*rows, *rows, *["end"] * 6))
            for last in OPENERS:
                self.is_bad(AT + 6, around(*rows, *rows, last, *["end"] * 7))
                self.is_bad(AT + 8, around(*rows, *rows, "end", last, last, *["end"] * 7))

    def test_blocks_behind_one_another_are_not_deep(self):
        for row in OPENERS:
            self.stands(around(*[row, "end"] * 20))
            self.stands(around(*[row] * 5, *[row, "end"] * 10, *["end"] * 5))
            self.is_bad(AT + 8, around(*[row] * 5, row, "end", row, row, row, *["end"] * 7))

    def test_depth_behind_else(self):
        self.stands(around(*["if 1", "else"] * 6, *["end"] * 6))
        self.is_bad(AT + 12, around(*["if 1", "else"] * 6, "if 1", *["end"] * 7))
        self.is_bad(AT + 12, around(*["if 1", "else"] * 6, "while 1", *["end"] * 7))

    def test_each_task_has_blocks_of_its_own(self):
        six = [*["if 1"] * 6, *["end"] * 6]
        self.stands([*HEAD, "task a 1", *six, "task b 1", *six, "task c 1", *six])

    def test_end_without_a_block(self):
        self.is_bad(AT, around("end"))
        self.is_bad(AT + 1, around("say 1", "end"))
        for row in OPENERS:
            self.is_bad(AT + 2, around(row, "end", "end"))
            self.is_bad(AT + 4, around(row, row, "end", "end", "end", "say 1"))
        self.is_bad(AT + 3, around("if 1", "else", "end", "end"))

    def test_else_without_an_if(self):
        self.is_bad(AT, around("else"))
        self.is_bad(AT, around("else", "end"))
        self.is_bad(AT + 1, around("say 1", "else"))
        self.is_bad(AT + 2, around("if 1", "end", "else"))
        self.is_bad(AT + 2, around("if 1", "end", "else", "end"))
        for row in ("while 0", "repeat 2"):
            self.is_bad(AT + 1, around(row, "else", "end"))
            self.is_bad(AT + 2, around(row, "say 1", "else", "end"))
            self.is_bad(AT + 3, around("if 1", row, "say 1", "else", "end", "end"))
            self.is_bad(AT + 4, around("if 1", "else", row, "say 1", "else", "end", "end"))
            self.stands(around("if 1", row, "end", "else", "end"))
            self.stands(around(row, "if 1", "else", "end", "end"))
            self.is_bad(AT + 3, around(row, "if 1", "end", "else", "end"))

    def test_a_second_else(self):
        self.is_bad(AT + 2, around("if 1", "else", "else", "end"))
        self.is_bad(AT + 4, around("if 1", "say 1", "else", "say 2", "else", "end"))
        self.is_bad(AT + 5, around("if 1", "else", "if 1", "else", "end", "else", "end"))
        self.is_bad(AT + 4, around("if 1", "else", "while 0", "end", "else", "end"))
        self.is_bad(AT + 4, around("if 1", "if 1", "else", "say 1", "else", "end", "end"))

    def test_each_if_has_its_own_else(self):
        self.stands(around("if 1", "if 2", "else", "end", "else", "end"))
        self.stands(around("if 1", "else", "if 2", "else", "end", "end"))
        self.stands(around("if 1", "if 2", "else", "end", "else", "if 3", "else", "end", "end"))
        self.stands(around("if 1", "else", "end", "if 1", "else", "end"))
        self.stands(around("if 1", "if 2", "end", "else", "end"))

    def test_a_task_while_a_block_is_open(self):
        for row in OPENERS:
            self.is_bad(AT + 1, around(row))
            self.is_bad(AT + 2, around(row, "say 1"))
            self.is_bad(AT + 3, around(row, row, "end"))
        self.is_bad(AT + 2, around("if 1", "else"))
        self.is_bad(AT + 2, around("if 1", "else") + ["end"])

    def test_blocks_that_are_open_at_the_end(self):
        for row in OPENERS:
            for rows in ([row], [row, "say 1"], ["say 1", row, row, "end"], [row] * 6, [*[row] * 6, "end"]):
                lines = [*HEAD, "task one 1", *rows]
                with self.subTest(rows=rows):
                    self.is_bad(len(lines), lines)
                    self.is_bad(len(lines) + 2, [*HEAD, "task two 1", "say 1", *lines[2:]])
        self.is_bad(5, [*HEAD, "task one 1", "if 1", "else"])


class TasksTest(ProgramCase):

    def test_tasks_without_statements(self):
        for row in ("task one 1", "task one 9 later"):
            self.is_bad(2, [*HEAD, row])
            self.is_bad(2, [*HEAD, row, "task two 1"])
            self.is_bad(2, [*HEAD, row, "task two 1 later", "say 1"])
            self.is_bad(2, [*HEAD, row, "task one 1", "say 1"])
            self.is_bad(3, [*HEAD, "part a", row, "task two 1", "say 1"])
            self.is_bad(4, [*HEAD, "task two 1", "say 1", row])
            self.is_bad(4, [*HEAD, "task two 1", "say 1", row, "task tri 1", "say 1"])
            self.is_bad(5, [*HEAD, "task two 1", "if 1", "end", row, "task tri 1", "say 1"])

    def test_a_line_without_a_form_behind_a_task_is_told_itself(self):
        for row in (
            "", " ", "tasks two 1", "task", "task two", "task two x", "task two 1 late", "task 1 two", "task task 1",
            "task abcdefghi 1", "task  two 1", "task two 1 ", " task two 1", "Task two 1", "what", "say", "x",
        ):
            with self.subTest(row):
                self.is_bad(3, [*HEAD, "task one 1", row, "say 1"])
                self.is_bad(3, [*HEAD, "task one 1", row])
                self.is_bad(5, [*HEAD, "task one 1", "say 1", "task two 1", row])

    def test_a_line_that_cannot_stand_behind_a_task_is_told_itself(self):
        for row in ("part a", "queue a 1", "cell a 1", "lock a lent", "cores 1", "slice 0", "end", "else"):
            with self.subTest(row):
                self.is_bad(3, [*HEAD, "task one 1", row, "say 1"])
                self.is_bad(3, [*HEAD, "task one 1", row])

    def test_a_line_feed_behind_a_task(self):
        self.is_bad(3, [*HEAD, "task one 1", ""])

    def test_the_first_line_is_told(self):
        self.is_bad(2, [*HEAD, "task one 1", "task two 1", "what"])
        self.is_bad(3, [*HEAD, "lock a", "lock 1x", "what", "task one 1", "task two 1"])
        self.is_bad(3, [*HEAD, "task one 1", "what", "task two 1", "task tri 1"])

    def test_each_statement_is_enough(self):
        for rows in (
            ["work 0"], ["x = 1"], ["if 1", "end"], ["while 0", "end"], ["repeat 0", "end"], ["lock door"],
            ["unlock door"], ["put line 1"], ["take line x"], ["sleep 0"], ["start two"], ["wait two"], ["say 1"],
        ):
            self.stands(around(*rows))


class CountsTest(ProgramCase):

    def filled(self, count, last="say 1"):
        """A program of so many lines."""
        lines = [*HEAD, "task one 1"]
        return [*lines, *["say 1"] * (count - 4), last]

    def test_eighty_lines(self):
        for count in (4, 5, 79, 80):
            self.assertEqual(len(self.stands(self.filled(count)).lines), count)
        for count in (81, 82, 100, 1000):
            self.is_bad(80, self.filled(count))

    def test_what_stands_beyond_the_eightieth_line(self):
        lines = self.filled(80)
        for row in ("say 2", "task two 1", "task two 1 later", "what", "", "end", "if 1", "part a"):
            with self.subTest(row):
                self.is_bad(80, [*lines, row])
                self.is_bad(80, [*lines, row, "say 1"])

    def test_a_task_in_the_eightieth_line(self):
        lines = self.filled(80, "task two 1")
        self.is_bad(79, lines)
        self.is_bad(79, [*lines, "task tri 1"])
        self.is_bad(79, [*lines, "task tri 1 later", "say 1"])
        for row in ("say 1", "what", "", "task", "end", "part a", "work 1"):
            with self.subTest(row):
                self.is_bad(80, [*lines, row])
        self.is_bad(78, [*self.filled(79, "task two 1"), "task tri 1"])
        self.is_bad(78, [*self.filled(79, "task two 1"), "task tri 1", "say 1"])
        self.stands([*self.filled(79, "task two 1"), "say 1"])

    def test_eighty_lines_that_end_too_early(self):
        self.is_bad(80, self.filled(80, "if 1"))
        self.is_bad(80, self.filled(80, "while 1"))
        self.is_bad(80, [*self.filled(80, "if 1"), "end"])
        self.is_bad(79, self.filled(79, "if 1"))

    def test_an_earlier_line_ahead_of_too_many(self):
        lines = self.filled(100)
        lines[50] = "what"
        self.is_bad(50, lines)

    def test_declarations(self):
        for most, begin, rest in (
            (4, "lock", ""), (4, "lock", " lent"), (3, "queue", " 1"), (4, "cell", " 0"), (5, "part", ""),
        ):
            for count in range(most + 3):
                rows = [f"{begin} {begin[0]}{'abcdefgh'[at]}{rest}" for at in range(count)]
                lines = [*HEAD, *rows, "task one 1", "say 1"]
                with self.subTest(begin, count=count):
                    if count <= most:
                        self.stands(lines)
                    else:
                        self.is_bad(2 + most, lines)

    def test_locks_are_counted_whether_lent_or_not(self):
        rows = ["lock a", "lock b lent", "lock c lent", "lock d"]
        self.stands([*HEAD, *rows, "task one 1", "say 1"])
        for row in ("lock e", "lock e lent"):
            self.is_bad(6, [*HEAD, *rows, row, "task one 1", "say 1"])
            self.is_bad(8, [*HEAD, *rows, "part p", "cell q 1", row, "task one 1", "say 1"])

    def test_all_declarations_at_once(self):
        rows = [f"lock l{sign}" for sign in "abcd"] + [f"queue q{sign} 1" for sign in "abc"]
        rows += [f"cell c{sign} 1" for sign in "abcd"] + [f"part p{sign}" for sign in "abcde"]
        program = self.stands([*HEAD, *rows, "task one 1", "say 1"])
        self.assertEqual(program.parts, ("pa", "pb", "pc", "pd", "pe"))
        for row in ("lock z", "lock z lent", "queue z 1", "cell z 1", "part z"):
            self.is_bad(18, [*HEAD, *rows, row, "task one 1", "say 1"])

    def test_statements_are_not_counted_as_declarations(self):
        self.stands(around(*["lock door"] * 9, *["unlock door"] * 9))

    def test_six_tasks(self):
        for count in range(1, 9):
            rows = []
            for at in range(count):
                rows += [f"task {'abcdefgh'[at]} 1" + ("", " later")[at % 2], "say 1"]
            with self.subTest(count):
                if count <= 6:
                    self.assertEqual(self.stands([*HEAD, *rows]).tasks, tuple("abcdef"[:count]))
                else:
                    self.is_bad(14, [*HEAD, *rows])

    def test_a_task_too_many_behind_one_without_statements(self):
        rows = []
        for sign in "abcde":
            rows += [f"task {sign} 1", "say 1"]
        self.is_bad(12, [*HEAD, *rows, "task f 1", "task g 1", "say 1"])
        self.is_bad(12, [*HEAD, *rows, "task f 1", "task g 1 later"])
        self.is_bad(12, [*HEAD, *rows, "task f 1"])
        self.is_bad(13, [*HEAD, *rows, "task f 1", "task g"])
        self.is_bad(14, [*HEAD, *rows, "task f 1", "say 1", "task g 1"])
        self.is_bad(14, [*HEAD, *rows, "task f 1", "say 1", "task g 1", "task h 1"])
        self.is_bad(15, [*HEAD, *rows, "task f 1", "if 1", "end", "task g 1", "say 1"])
        self.is_bad(14, [*HEAD, *rows, "task f 1", "if 1", "task g 1", "say 1"])
