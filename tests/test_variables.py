"""Section 6: expressions, the variables of a task alone, and cells."""

from tests.telling import RunCase, program, said
from whatspeed.runs import run

VALUES = [
    ("0", 0), ("999", 999), ("1 + 2", 3), ("999 + 1", 0), ("998 + 5", 3), ("5 - 7", 998), ("0 - 1", 999),
    ("7 - 2 - 1", 4), ("7 - 2 + 1", 6), ("3 * 4", 12), ("999 * 999", 1), ("500 * 2", 0), ("2 + 3 * 4", 14),
    ("2 * 3 + 4", 10), ("10 - 2 * 3", 4), ("2 * 3 * 4", 24), ("( 2 + 3 ) * 4", 20), ("2 * ( 3 + 4 )", 14),
    ("10 - ( 2 - 1 )", 9), ("( 10 - 2 ) - 1", 7), ("( 5 )", 5), ("( ( ( ( ( ( 7 ) ) ) ) ) )", 7),
    ("3 = 3", 1), ("3 = 4", 0), ("3 < 4", 1), ("4 < 3", 0), ("3 < 3", 0), ("4 > 3", 1), ("3 > 4", 0), ("3 > 3", 0),
    ("1 + 2 = 3", 1), ("3 = 1 + 2", 1), ("2 * 3 > 1 + 4", 1), ("999 + 1 = 0", 1), ("0 - 1 > 5", 1),
    ("( 1 < 2 ) + ( 2 < 3 )", 2), ("( 3 > 2 ) = ( 1 = 1 )", 1), ("( 1 = 2 ) - 1", 999), ("1 - ( 2 < 3 )", 0),
    ("600 + 600 - 300", 900), ("600 * 2 - 201", 999), ("x", 0), ("x + 1", 1), ("x = 0", 1), ("0 - x", 0),
]


class ExpressionsTest(RunCase):

    def test_values(self):
        for text, value in VALUES:
            with self.subTest(text=text):
                one = run(program(f"task one 1; say {text}"))
                self.assertEqual(one.outputs[0][2], value)
                self.assertIs(type(one.outputs[0][2]), int)

    def test_all_statements_with_a_value(self):
        one = run(program(
            "queue pipe 1", "task one 1; x = 2 * 3; if x - 6; say 1; else; say x; end",
            "while x = 6; x = x - 1; end; say x; put pipe x * 2; take pipe y; say y - x",
        ))
        self.assertEqual(said(one), ["0 one 6", "0 one 5", "0 one 5"])

    def test_each_value_but_0_is_true(self):
        for value in (1, 2, 999):
            one = run(program(f"task one 1; if {value}; say 1; end"))
            self.assertEqual(said(one), ["0 one 1"])


class VariablesTest(RunCase):

    def test_variables_begin_with_0(self):
        self.assertEqual(said(run(program("task one 1; say x; x = x + 1; say x"))), ["0 one 0", "0 one 1"])

    def test_variables_belong_to_their_task(self):
        one = run(program("task one 1; x = 5; sleep 1; say x", "task two 1; say x; x = 7; sleep 2; say x"))
        self.assertEqual(said(one), ["0 two 0", "1 one 5", "2 two 7"])

    def test_cells_begin_with_their_value(self):
        one = run(program("cell heap 12", "cell none 0", "task one 1; say heap; say none"))
        self.assertEqual(said(one), ["0 one 12", "0 one 0"])

    def test_cells_belong_to_all(self):
        rows = ["cell heap 2", "task one 1; heap = heap * 3; sleep 2; say heap", "task two 1; heap = heap + 1"]
        one = run(program(*rows))
        self.assertEqual(said(one), ["2 one 7"])

    def test_values_are_read_when_the_statement_is_taken(self):
        # The value that waits for room was worked out ahead of the change of the cell.
        one = run(program(
            "cores 2", "queue pipe 1", "cell heap 1", "task one 1; put pipe heap; put pipe heap + 1",
            "task two 1; heap = 9; sleep 1; take pipe x; take pipe y; say x; say y",
        ))
        self.assertEqual(said(one), ["1 two 1", "1 two 2"])

    def test_values_are_written_when_they_come(self):
        # one waits with x = 4 until 2, when it gets 8; what it takes into a cell is there for tri at once.
        one = run(program(
            "cores 3", "queue pipe 1", "cell heap 4", "task one 1; take pipe heap; say heap",
            "task two 1; sleep 2; put pipe 8; say heap", "task tri 1; sleep 1; say heap; heap = 5; sleep 2; say heap",
        ))
        self.assertEqual(said(one), ["1 tri 4", "2 two 8", "2 one 8", "3 tri 8"])

    def test_take_of_a_cell_from_a_full_queue(self):
        one = run(program("queue pipe 1", "cell heap 4", "task one 1; put pipe 3; take pipe heap; say heap"))
        self.assertEqual(said(one), ["0 one 3"])

    def test_variable_of_another_one_is_not_written(self):
        one = run(program("queue pipe 1", "task one 1; take pipe x; say x", "task two 1; x = 1; put pipe 8; say x"))
        self.assertEqual(said(one), ["0 two 1", "0 one 8"])
