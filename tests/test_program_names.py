"""Section 5: names that are declared twice or not at all, and the sequence of the errors."""

from tests.helpers import AT, ProgramCase, around
from whatspeed.errors import BadProgram, Doubled, Unnamed

HEAD = ["cores 1", "slice 0"]
DECLARING = ["lock {}", "lock {} lent", "queue {} 1", "cell {} 1", "part {}"]
BEGINNING = ["task {} 1", "task {} 1 later"]

# What is declared in the programs of these tests, and what each name may be used as.
NAMED = [
    "cores 1", "slice 0", "lock door", "lock gate lent", "queue line 2", "cell count 5", "part fetch", "task one 1",
]
BEHIND = ["task two 2 later", "say 1", "task tri 3", "say 1"]
NAMES = {
    "door": "lock", "gate": "lock", "line": "queue", "count": "cell", "fetch": "part", "one": "task", "two": "later",
    "tri": "task", "other": "own",
}
USES = [
    (["work 3 {}"], ["part"]), (["work 0 {}"], ["part"]), (["lock {}"], ["lock"]), (["unlock {}"], ["lock"]),
    (["put {} 1"], ["queue"]), (["put {} count"], ["queue"]), (["take {} x"], ["queue"]),
    (["take {} count"], ["queue"]), (["start {}"], ["later"]), (["wait {}"], ["task", "later"]),
    (["{} = 1"], ["cell", "own"]), (["{} = {}"], ["cell", "own"]), (["x = {}"], ["cell", "own"]),
    (["take line {}"], ["cell", "own"]), (["put line {}"], ["cell", "own"]), (["say {}"], ["cell", "own"]),
    (["if {}", "end"], ["cell", "own"]), (["while {}", "end"], ["cell", "own"]),
    (["if {}", "else", "end"], ["cell", "own"]), (["say 1 + {}"], ["cell", "own"]), (["say {} * 2"], ["cell", "own"]),
    (["say ( 1 = {} ) - x"], ["cell", "own"]), (["put line 2 * ( {} )"], ["cell", "own"]),
    (["while x < {}", "end"], ["cell", "own"]), (["if {} > {}", "end"], ["cell", "own"]),
    (["x = x + {}"], ["cell", "own"]),
]


class DoubledTest(ProgramCase):

    def test_two_declarations(self):
        for one in DECLARING:
            for other in DECLARING:
                with self.subTest(one, other=other):
                    lines = [*HEAD, one.format("a"), other.format("a"), "task t 1", "say 1"]
                    self.fails(Doubled, 3, lines)
                    lines = [*HEAD, one.format("a"), "part c", other.format("a"), "task t 1", "say 1"]
                    self.fails(Doubled, 4, lines)
                    self.stands([*HEAD, one.format("a"), other.format("b"), "task t 1", "say 1"])

    def test_a_declaration_and_a_task(self):
        for one in DECLARING:
            for other in BEGINNING:
                with self.subTest(one, other=other):
                    self.fails(Doubled, 3, [*HEAD, one.format("a"), other.format("a"), "say 1"])
                    lines = [*HEAD, one.format("a"), "task b 1", "say 1", other.format("a"), "say 1"]
                    self.fails(Doubled, 5, lines)
                    self.stands([*HEAD, one.format("a"), other.format("b"), "say 1"])

    def test_two_tasks(self):
        for one in BEGINNING:
            for other in BEGINNING:
                with self.subTest(one, other=other):
                    self.fails(Doubled, 4, [*HEAD, one.format("a"), "say 1", other.format("a"), "say 1"])
                    self.stands([*HEAD, one.format("a"), "say 1", other.format("b"), "say 1"])

    def test_the_first_line_is_told(self):
        self.fails(Doubled, 3, [*HEAD, "lock a", "part a", "cell a 1", "task t 1", "say 1"])
        self.fails(Doubled, 4, [*HEAD, "lock a", "part b", "cell b 1", "queue a 1", "task t 1", "say 1"])
        self.fails(Doubled, 4, [*HEAD, "lock a", "part b", "task a 1", "say 1", "task b 1", "say 1"])

    def test_own_variables_are_not_declared(self):
        self.stands([*HEAD, "task a 1", "x = 1", "x = 2", "task b 1", "x = 3", "say x"])
        self.stands([*HEAD, "queue q 1", "task a 1", "take q x", "take q x", "task b 1", "take q x"])
        self.stands([*HEAD, "cell c 1", "task a 1", "c = 1", "c = c + 1", "task b 1", "c = 2"])

    def test_statements_declare_nothing(self):
        self.stands(around("lock door", "lock door", "work 1 fetch", "work 1 fetch", "start two", "start two"))


class UnnamedTest(ProgramCase):

    def test_each_use_of_each_name(self):
        for rows, kinds in USES:
            for name, kind in NAMES.items():
                filled = [row.replace("{}", name) for row in rows]
                with self.subTest(filled[0]):
                    near = [*NAMED, *filled, *BEHIND]
                    far = [*NAMED, "say 1", *BEHIND, "x = 1", *filled]
                    if kind in kinds:
                        self.stands(near)
                        self.stands(far)
                    else:
                        self.fails(Unnamed, 8, near)
                        self.fails(Unnamed, 14, far)

    def test_each_use_without_any_declaration(self):
        for rows, kinds in USES:
            filled = [row.replace("{}", "thing").replace("line", "thong") for row in rows]
            lines = [*HEAD, "task t 1", *filled]
            with self.subTest(filled[0]):
                if "own" in kinds and "thong" not in filled[0]:
                    self.stands(lines)
                else:
                    self.fails(Unnamed, 3, lines)

    def test_a_queue_that_is_not_declared_with_a_right_variable(self):
        self.fails(Unnamed, AT, around("put lines 1"))
        self.fails(Unnamed, AT, around("take lines x"))
        self.fails(Unnamed, AT, around("put count 1"))

    def test_tasks_may_be_named_ahead_of_their_line(self):
        rows = ["task a 1", "start b", "wait b", "wait c", "task b 1 later", "wait c", "task c 1", "wait a"]
        self.stands([*HEAD, *rows])
        self.stands([*HEAD, "task a 1", "wait a"])
        self.stands([*HEAD, "task a 1 later", "start a"])

    def test_only_tasks_that_are_later_are_started(self):
        self.fails(Unnamed, 3, [*HEAD, "task a 1", "start a"])
        self.fails(Unnamed, 3, [*HEAD, "task a 1", "start b", "task b 1", "say 1"])
        self.fails(Unnamed, 5, [*HEAD, "task b 1", "say 1", "task a 1", "start b"])
        self.stands([*HEAD, "task b 1 later", "say 1", "task a 1", "start b"])

    def test_names_of_tasks_are_no_variables_ahead_of_their_line(self):
        self.fails(Unnamed, 3, [*HEAD, "task a 1", "b = 1", "task b 1", "say 1"])
        self.fails(Unnamed, 3, [*HEAD, "task a 1", "say b", "task b 1 later", "say 1"])
        self.fails(Unnamed, 3, [*HEAD, "task a 1", "say a"])

    def test_the_first_line_is_told(self):
        self.fails(Unnamed, AT + 1, around("say 1", "say door", "lock x", "work 1 y"))
        self.fails(Unnamed, AT + 2, around("if 1", "say 1", "start one", "end", "wait x"))
        self.fails(Unnamed, AT, around("x = door", "door = x"))


class SequenceTest(ProgramCase):

    def test_bad_program_is_first(self):
        bad = [*HEAD, "lock a", "part a", "task t 1", "say a", "wait x", "what", "say 1"]
        self.fails(BadProgram, 7, bad)
        self.fails(Doubled, 3, [row for row in bad if row != "what"])
        self.fails(Unnamed, 4, [row for row in bad if row not in ("what", "part a")])
        self.fails(BadProgram, 7, [*HEAD, "lock a", "lock a", "task t 1", "wait x", "if 1"])
        self.fails(BadProgram, 3, [*HEAD, "lock a", "lock 1", "task t 1", "wait x", "if 1"])

    def test_doubled_is_ahead_of_unnamed(self):
        self.fails(Doubled, 4, [*HEAD, "task a 1", "wait x", "task a 1", "say 1"])
        self.fails(Doubled, 6, [*HEAD, "task a 1", "say b", "task b 1", "start b", "task b 1 later", "say 1"])
        self.fails(Unnamed, 3, [*HEAD, "task a 1", "wait x", "task b 1", "say 1"])

    def test_too_many_is_ahead_of_doubled(self):
        self.fails(BadProgram, 5, [*HEAD, "queue a 1", "queue a 1", "queue a 1", "queue a 1", "task t 1", "say 1"])
        self.fails(BadProgram, 6, [*HEAD, *["lock a"] * 5, "task t 1", "say 1"])
        self.fails(Doubled, 3, [*HEAD, *["lock a"] * 4, "task t 1", "say 1"])

    def test_no_statements_is_ahead_of_doubled(self):
        self.fails(BadProgram, 3, [*HEAD, "lock a", "task a 1"])
        self.fails(Doubled, 3, [*HEAD, "lock a", "task a 1", "say a"])
