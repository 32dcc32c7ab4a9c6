"""Section 7: State."""

from tests.helpers import any_values
from tests.telling import RunCase, amount, number, program
from whatspeed.errors import NoTask, NoThing
from whatspeed.exact import Number
from whatspeed.runs import run


class TasksTest(RunCase):

    def conditions(self, rows, time, told):
        """Checks state[task] at a time for several tasks."""
        one = run(program(*rows))
        state = one.state(number(time))
        self.assertEqual({task: state[task] for task in told}, told)
        return one

    def test_later_and_ready(self):
        rows = ["task one 1; work 2; start two; work 1", "task two 1 later; say 1", "task tri 1; say 2"]
        self.conditions(rows, 0, {"one": ("run", 0), "two": ("later",), "tri": ("ready",)})
        self.conditions(rows, 2, {"one": ("run", 0), "two": ("ready",), "tri": ("ready",)})
        self.conditions(rows, 3, {"one": ("end",), "two": ("end",), "tri": ("end",)})

    def test_run_tells_the_core(self):
        rows = ["cores 3", "task one 1; work 3", "task two 2; work 1", "task tri 3; work 2"]
        self.conditions(rows, 0, {"one": ("run", 2), "two": ("run", 1), "tri": ("run", 0)})
        self.conditions(rows, 1, {"one": ("run", 2), "two": ("end",), "tri": ("run", 0)})

    def test_stopped_task_is_ready(self):
        rows = ["task one 1; work 4", "task top 2; sleep 1; work 1"]
        self.conditions(rows, 0, {"one": ("run", 0), "top": ("sleep",)})
        self.conditions(rows, 1, {"one": ("ready",), "top": ("run", 0)})
        self.conditions(rows, 2, {"one": ("run", 0), "top": ("end",)})

    def test_all_that_a_task_waits_for(self):
        rows = [
            "lock a", "queue pipe 1", "queue tube 1", "task one 1; lock a; put pipe 1; sleep 5",
            "task two 1; lock a", "task tri 1; put pipe 2", "task four 1; take tube x", "task five 1; wait one",
        ]
        self.conditions(rows, 0, {
            "one": ("sleep",), "two": ("lock", "a"), "tri": ("room", "pipe"), "four": ("value", "tube"),
            "five": ("task", "one"),
        })
        one = self.conditions(rows, 5, {
            "one": ("end",), "two": ("lock", "a"), "tri": ("room", "pipe"), "four": ("value", "tube"), "five": ("end",),
        })
        self.assertEqual(one.outcome, "stuck")

    def test_kinds_of_values(self):
        state = run(program("task one 1; work 3")).state(Number(0))
        self.assertEqual([type(value) for value in (state["one"], *state["one"])], [tuple, str, int])

    def test_amid_a_moment(self):
        # The task whose step was a fault runs, whether it has a work or not.
        rows = ["cores 2", "lock a", "task one 1; work 2; unlock a", "task two 1; sleep 2", "task tri 1; work 9"]
        self.conditions(rows, 2, {"one": ("run", 0), "two": ("ready",), "tri": ("run", 1)})
        # A statement that is refused as too much.
        rows = ["cores 2", "task one 1; while 1; end", "task two 1; say 1"]
        self.conditions(rows, 0, {"one": ("run", 0), "two": ("run", 1)})

    def test_amid_a_moment_with_a_free_core(self):
        rows = ["cores 2", "lock a", "task one 1; sleep 1; unlock a", "task two 1; start one"]
        self.conditions(["cores 2", "task one 1; start two; say 1; start two", "task two 1 later; wait one"], 0, {
            "one": ("run", 0), "two": ("run", 1),
        })
        self.conditions([*rows[:-1], "task two 1; say 1"], 1, {"one": ("run", 0), "two": ("end",)})

    def test_no_task(self):
        state = run(program("lock a", "queue pipe 1", "cell heap 1", "task one 1; work 3")).state(Number(0))
        for value in any_values() + ["a", "pipe", "heap", "One", "one ", ("one",), ["one"], {"one": 1}]:
            with self.subTest(value=value):
                with self.assertRaises(NoTask) as caught:
                    state[value]
                self.assertIs(caught.exception.value, value)

    def test_cannot_be_iterated_over(self):
        state = run(program("task one 1; work 3")).state(Number(0))
        with self.assertRaises(TypeError):
            iter(state)
        with self.assertRaises(TypeError):
            list(state)
        with self.assertRaises(TypeError):
            for _ in state:
                pass


class ThingsTest(RunCase):

    def test_time(self):
        one = run(program("part dig", "task one 1; work 3 dig; work 1"), ())
        times = [amount(one.state(number(time)).time) for time in ("0", "3", "7/2", "4")]
        self.assertEqual(times, ["0", "3", "3", "4"])

    def test_cells(self):
        one = run(program("cell b 5", "cell a 0", "cell c 999", "task one 1; a = b + 1; work 1; c = 3; work 1; b = 0"))
        self.assertEqual(one.state(Number(0)).cells, (("b", 5), ("a", 6), ("c", 999)))
        self.assertEqual(one.state(Number(1)).cells, (("b", 5), ("a", 6), ("c", 3)))
        self.assertEqual(one.state(Number(2)).cells, (("b", 0), ("a", 6), ("c", 3)))

    def test_no_cells(self):
        self.assertEqual(run(program("task one 1; say 1")).state(Number(0)).cells, ())

    def test_queue(self):
        one = run(program(
            "cores 2", "queue pipe 2", "queue tube 1",
            "task one 1; put pipe 3; work 1; put pipe 1; work 1; put pipe 2; work 1",
            "task two 1; sleep 3; take pipe x",
        ))
        self.assertEqual([one.state(number(time)).queue("pipe") for time in (0, 1, 2)], [(3,), (3, 1), (3, 1)])
        self.assertEqual(one.state(number(2))["one"], ("room", "pipe"))
        self.assertEqual(one.state(number(3)).queue("pipe"), (1, 2))
        self.assertEqual(one.state(number(3)).queue(name="tube"), ())

    def test_holder(self):
        one = run(program(
            "cores 2", "lock a", "lock b", "task one 1; work 1; lock a; work 1; unlock a; lock b",
            "task two 1; sleep 2; work 1; lock a; sleep 3; unlock a",
        ))
        holders = [(one.state(number(time)).holder("a"), one.state(number(time)).holder("b")) for time in range(7)]
        self.assertEqual(holders, [
            (None, None), ("one", None), (None, "one"), ("two", "one"), ("two", "one"), ("two", "one"), (None, "one"),
        ])
        self.assertEqual(one.state(number(6))["one"], ("end",))
        self.assertEqual(one.state(number(3)).holder(name="a"), "two")

    def test_holder_behind_a_hand_over(self):
        one = run(program("lock a", "task one 1; lock a; sleep 1; unlock a; sleep 1", "task two 1; lock a; sleep 5"))
        self.assertEqual([one.state(number(time)).holder("a") for time in (0, 1)], ["one", "two"])

    def test_no_thing(self):
        state = run(program("lock a", "queue pipe 1", "cell heap 1", "part dig", "task one 1; work 3")).state(Number(0))
        for value in any_values() + ["heap", "dig", "one", "x", "lock", ("a",), ["pipe"], {"a": 1}]:
            with self.subTest(value=value):
                if value != "a":
                    self.refuses(NoThing, value, state.holder, value)
                self.refuses(NoThing, value, state.queue, value)
        self.refuses(NoThing, "pipe", state.holder, "pipe")
        self.refuses(NoThing, "a", state.queue, "a")

    def test_variable(self):
        one = run(program("task one 1; x = 5; work 2; x = x + 1; work 1; y = 3", "task two 2; x = 8"))
        self.assertEqual([one.state(number(time)).variable("one", "x") for time in (0, 1, 2, 3)], [5, 5, 6, 6])
        self.assertEqual([one.state(number(time)).variable("one", "y") for time in (0, 3)], [0, 3])
        self.assertEqual(one.state(Number(0)).variable(task="two", name="x"), 8)

    def test_variable_that_a_take_writes(self):
        one = run(program("queue pipe 1", "task one 1; take pipe x", "task two 1; work 2; put pipe 7"))
        self.assertEqual([one.state(number(time)).variable("one", "x") for time in (0, 2)], [0, 7])

    def test_variable_is_0_for_all_else(self):
        one = run(program("lock a", "cell heap 7", "task one 1; x = 5; heap = 6; work 1", "task two 1; y = 3; work 1"))
        state = one.state(Number(0))
        for value in any_values() + ["heap", "y", "one", "a", "X", "x ", ["x"], ("x",), {"x": 1}]:
            with self.subTest(value=value):
                self.assertEqual(state.variable("one", value), 0)
                self.assertIs(type(state.variable("one", value)), int)
        self.assertEqual([state.variable("two", "x"), state.variable("two", "y")], [0, 0])
        self.assertEqual([one.state(Number(2)).variable("two", name) for name in "xy"], [0, 3])

    def test_variable_of_no_task(self):
        state = run(program("cell heap 7", "task one 1; x = 5; work 1")).state(Number(0))
        for value in any_values() + ["x", "heap", "One", ["one"], ("one",)]:
            with self.subTest(value=value):
                self.refuses(NoTask, value, state.variable, value, "x")
                self.refuses(NoTask, value, state.variable, value, None)
