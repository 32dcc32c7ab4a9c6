"""Section 6: how runs end, and their events."""

from tests.telling import RunCase, amount, program, said, speeds, told
from whatspeed.runs import run


def steps(one):
    return [event for event in one.events if event[0] == "step"]


def slices(one):
    return [event for event in one.events if event[0] == "slice"]


class DoneTest(RunCase):

    def test_without_any_event(self):
        one = self.runs(["task one 1 later; say 1"], ["0: "])
        self.assertEqual([amount(one.time), one.events, one.outputs], ["0", (), ()])
        self.assertEqual(len(one.moments), 1)

    def test_a_task_that_never_begins(self):
        self.runs(["task one 1; work 1", "task two 1 later; say 1"], [
            "0: run one 0, step one 3",
            "1: over one 3, end one 2",
        ])

    def test_at_time_0(self):
        one = self.runs(["task one 1; say 1"], ["0: run one 0, step one 3, end one 2"])
        self.assertEqual(amount(one.time), "0")

    def test_with_a_lock_that_is_held(self):
        self.runs(["lock a", "task one 1; lock a"], ["0: run one 0, step one 4, end one 3"])

    def test_with_values_left(self):
        self.runs(["queue pipe 1", "task one 1; put pipe 1"], ["0: run one 0, step one 4, end one 3"])


class StuckTest(RunCase):

    def test_for_a_lock(self):
        self.runs(["lock a", "task one 1; lock a; sleep 1; wait two", "task two 1; lock a"], [
            "0: run one 0, step one 4, step one 5, run two 0, step two 8",
            "1: wake one 5, run one 0, step one 6",
        ], "stuck")

    def test_for_a_value(self):
        self.runs(["queue pipe 1", "task one 1; take pipe x"], ["0: run one 0, step one 4"], "stuck")

    def test_for_room(self):
        self.runs(["queue pipe 1", "task one 1; put pipe 1; put pipe 2"], [
            "0: run one 0, step one 4, step one 5",
        ], "stuck")

    def test_for_a_task(self):
        self.runs(["task one 1; wait one"], ["0: run one 0, step one 3"], "stuck")

    def test_time_is_that_of_the_last_moment(self):
        self.runs(["task one 1; wait two", "task two 1; work 3; wait one"], [
            "0: run one 0, step one 3, run two 0, step two 5",
            "3: over two 5, step two 6",
        ], "stuck")


class FaultTest(RunCase):

    def test_lock_that_it_holds(self):
        one = self.runs(["lock a", "task one 1; lock a; work 2; lock a; say 1"], [
            "0: run one 0, step one 4, step one 5",
            "2: over one 5, step one 6",
        ], "fault")
        self.assertEqual(one.state(one.time).holder("a"), "one")

    def test_unlock_of_a_free_lock(self):
        one = self.runs(["lock a", "task one 1; unlock a; say 1"], ["0: run one 0, step one 4"], "fault")
        self.assertIs(one.state(one.time).holder("a"), None)

    def test_unlock_of_a_lock_of_another_task(self):
        one = self.runs(["lock a", "task one 1; lock a; sleep 1", "task two 1; unlock a", "task tri 1; lock a"], [
            "0: run one 0, step one 4, step one 5, run two 0, step two 7",
        ], "fault")
        self.assertEqual(one.state(one.time).holder("a"), "one")

    def test_unlock_of_another_one_wakes_nobody(self):
        one = self.runs(["lock a", "task one 1; lock a; sleep 2", "task two 1; lock a", "task tri 1; unlock a"], [
            "0: run one 0, step one 4, step one 5, run two 0, step two 7, run tri 0, step tri 9",
        ], "fault")
        self.assertEqual(one.state(one.time)["two"], ("lock", "a"))

    def test_unlock_twice(self):
        self.runs(["lock a", "task one 1; lock a; unlock a; unlock a"], [
            "0: run one 0, step one 4, step one 5, step one 6",
        ], "fault")

    def test_unlock_of_a_lock_that_was_handed_over(self):
        rows = ["cores 2", "lock a", "task one 1; lock a; work 1; unlock a; unlock a", "task two 1; lock a; work 5"]
        self.runs(rows, [
            "0: run one 0, run two 1, step one 4, step one 5, step two 9",
            "1: over one 5, step one 6, go two 9, run two 1, step one 7",
        ], "fault")

    def test_start_of_a_task_that_runs(self):
        one = self.runs(["cores 2", "task one 1; start two; work 1; start two", "task two 1 later; work 5"], [
            "0: run one 0, step one 3, run two 1, step one 4, step two 7",
            "1: over one 4, step one 5",
        ], "fault")
        state = one.state(one.time)
        self.assertEqual([state["one"], state["two"]], [("run", 0), ("run", 1)])

    def test_start_of_a_task_that_is_ready(self):
        self.runs(["task one 1; start two; start two", "task two 1 later; say 2"], [
            "0: run one 0, step one 3, step one 4",
        ], "fault")

    def test_start_of_a_task_that_has_ended(self):
        self.runs(["task one 1; start two; say 1; start two", "task two 2 later; say 2"], [
            "0: run one 0, step one 3, stop one 0, run two 0, step two 7, end two 6, run one 0, step one 4, step one 5",
        ], "fault")

    def test_start_of_itself(self):
        self.runs(["task one 1; start two", "task two 1 later; start two"], [
            "0: run one 0, step one 3, end one 2, run two 0, step two 5",
        ], "fault")

    def test_nothing_else_happens_in_the_moment(self):
        # two does not take its step, and tri does not get a core.
        one = self.runs(["cores 2", "lock a", "task one 1; unlock a", "task two 1; say 2", "task tri 1; say 3"], [
            "0: run one 0, run two 1, step one 4",
        ], "fault")
        state = one.state(one.time)
        self.assertEqual([state["one"], state["two"], state["tri"]], [("run", 0), ("run", 1), ("ready",)])
        self.assertEqual(one.outputs, ())

    def test_openings_of_the_moment_have_happened(self):
        self.runs(["cores 2", "lock a", "task one 1; work 2; unlock a", "task two 1; sleep 2; say 2"], [
            "0: run one 0, run two 1, step one 4, step two 7",
            "2: wake two 7, over one 4, run two 1, step one 5",
        ], "fault")


class LongTest(RunCase):

    def test_200_statements_are_let(self):
        # Each round has the repeat and the say; then the repeat once more: 99 + 99 + 1, and one say behind it.
        rows = ["task one 1; repeat 49; say 1; end; repeat 49; say 2; end; say 3; say 4"]
        one = run(program(*rows))
        self.assertEqual([len(steps(one)), one.outcome, len(one.outputs)], [200, "done", 100])
        self.assertEqual(one.events[-1], ("end", "one", 2))

    def test_the_201st_is_refused(self):
        rows = ["task one 1; repeat 49; say 1; end; repeat 49; say 2; end; say 3; say 4; say 5"]
        one = run(program(*rows))
        self.assertEqual([len(steps(one)), one.outcome, len(one.outputs)], [200, "long", 100])
        self.assertEqual(one.events[-1], ("step", "one", 10))
        self.assertEqual(one.state(one.time)["one"], ("run", 0))

    def test_the_end_is_no_statement(self):
        rows = ["task one 1; repeat 49; say 1; end; repeat 49; say 2; end; say 3; say 4", "task two 1 later; say 1"]
        one = run(program(*rows))
        self.assertEqual([len(steps(one)), one.outcome], [200, "done"])

    def test_ends_behind_the_200th(self):
        # The last statement of all is that in which one waits for two.
        rows = ["task one 1; repeat 49; say 1; end; repeat 48; say 2; end; say 3; say 4; wait two", "task two 1; say 5"]
        one = run(program(*rows))
        self.assertEqual([len(steps(one)), one.outcome], [200, "done"])
        self.assertEqual(one.events[-4:], (("end", "two", 12), ("go", "one", 11), ("run", "one", 0), ("end", "one", 2)))

    def test_for_ever(self):
        one = self.runs(["task one 1; while 1; end"], ["0: run one 0" + 200 * ", step one 3"], "long")
        self.assertEqual(amount(one.time), "0")

    def test_statements_of_all_tasks(self):
        one = run(program("cores 2", "task one 1; while 1; sleep 1; end", "task two 1; while 1; sleep 1; end"))
        self.assertEqual([len(steps(one)), one.outcome, amount(one.time)], [200, "long", "50"])

    def test_refused_as_too_much_is_no_fault(self):
        rows = ["lock a", "task one 1; repeat 49; say 1; end; repeat 49; say 2; end; say 3; say 4; unlock a"]
        one = run(program(*rows))
        self.assertEqual([len(steps(one)), one.outcome], [200, "long"])

    def test_the_200th_may_be_a_fault(self):
        rows = ["lock a", "task one 1; repeat 49; say 1; end; repeat 49; say 2; end; say 3; unlock a; say 4"]
        one = run(program(*rows))
        self.assertEqual([len(steps(one)), one.outcome], [200, "fault"])

    def test_losses_of_a_core_are_let(self):
        # 2 statements and 198 losses, one at each time from 1 to 198.
        one = run(program("slice 1", "task one 1; work 99", "task two 1; work 99"))
        self.assertEqual([len(steps(one)), len(slices(one)), one.outcome], [2, 198, "done"])
        self.assertEqual([amount(one.time), one.events[-1]], ["198", ("end", "two", 4)])

    def test_one_more_is_refused(self):
        for row in ("work 99; say 1", "say 1; work 99"):
            one = run(program("slice 1", f"task one 1; {row}", "task two 1; work 99"))
            self.assertEqual([len(steps(one)) + len(slices(one)), one.outcome], [200, "long"])

    def test_the_201st_as_a_loss_of_a_core(self):
        one = run(program("slice 1", "part dig", "task one 1; work 99 dig", "task two 1; work 99 dig"), speeds(dig=2))
        self.assertEqual([len(steps(one)), len(slices(one)), one.outcome], [2, 198, "long"])
        # At 199 the slice of one is over, but what is too much has no event.
        self.assertEqual(told(one)[-2:], ["198: slice two 0, run one 0", "199: "])
        state = one.state(one.time)
        self.assertEqual([state["one"], state["two"]], [("run", 0), ("ready",)])
        self.assertEqual(next(one.samples(one.time))[1], (("one", "dig"),))

    def test_losses_and_statements_count_together(self):
        rows = ["slice 1", "task one 1; work 50", "task two 1; repeat 50; work 2; end"]
        one = run(program(*rows))
        self.assertEqual([len(steps(one)) + len(slices(one)), one.outcome], [200, "long"])

    def test_stops_do_not_count(self):
        # top stops low time and again: 3 statements each time, and 66 stops.
        rows = ["part dig", "task low 1; work 99 dig", "task top 2; while 1; sleep 1; work 1; end"]
        one = run(program(*rows), speeds(dig=9))
        stops = [event for event in one.events if event[0] == "stop"]
        self.assertEqual([len(steps(one)), len(stops), one.outcome], [200, 66, "long"])

    def test_slice_that_is_over_already_is_refused(self):
        # two wakes at 2; the slice of one is over since 1.
        rows = ["slice 1", "task two 1; sleep 2", "task one 1; repeat 49; say 1; end; repeat 48; say 1; end; say 2"]
        one = run(program(*rows, "work 3"))
        self.assertEqual([len(steps(one)), len(slices(one)), one.outcome], [199, 1, "done"])
        self.assertEqual(told(one)[1], "2: wake two 3, slice one 0, run two 0, end two 2, run one 0")
        one = run(program(*rows, "say 3", "work 3"))
        self.assertEqual([len(steps(one)), len(slices(one)), one.outcome], [200, 0, "long"])
        self.assertEqual(told(one)[1:], ["2: wake two 3"])


class EventsTest(RunCase):

    def test_each_kind(self):
        self.runs([
            "cores 1", "slice 2", "lock a", "task one 1; lock a; work 3; unlock a", "task two 1; lock a; unlock a",
            "task tri 1; work 1", "task top 2; sleep 3; work 1",
        ], [
            "0: run top 0, step top 13, run one 0, step one 4, step one 5",
            "2: slice one 0, run two 0, step two 8, run tri 0, step tri 11",
            "3: wake top 13, over tri 11, stop tri 0, run top 0, step top 14",
            "4: over top 14, end top 12, run tri 0, end tri 10, run one 0",
            "5: over one 5, step one 6, go two 8, end one 3, run two 0, step two 9, end two 7",
        ])

    def test_numbers_are_cores_and_lines(self):
        one = run(program("cores 2", "task one 1; work 1", "task two 1; sleep 1"))
        self.assertEqual(one.events, (
            ("run", "one", 0), ("run", "two", 1), ("step", "one", 3), ("step", "two", 5), ("wake", "two", 5),
            ("over", "one", 3), ("run", "two", 1), ("end", "one", 2), ("end", "two", 4),
        ))
        for event in one.events:
            self.assertEqual([type(one) for one in event], [str, str, int])

    def test_started_task_has_no_event(self):
        self.runs(["task one 1; start two; sleep 1", "task two 1 later; say 1"], [
            "0: run one 0, step one 3, step one 4, run two 0, step two 6, end two 5",
            "1: wake one 4, run one 0, end one 2",
        ])

    def test_go_tells_the_line_of_what_it_waited_in(self):
        one = run(program(
            "cores 3", "lock a", "queue pipe 1",
            "task one 2; lock a; put pipe 1; sleep 1; take pipe x; take pipe x; unlock a",
            "task two 1; lock a; unlock a; put pipe 3", "task tri 1; put pipe 2; wait two",
        ))
        goes = [event for event in one.events if event[0] == "go"]
        self.assertEqual(goes, [("go", "tri", 16), ("go", "two", 12), ("go", "tri", 17)])
        self.assertEqual([one.outcome, said(one)], ["done", []])

    def test_wakes_stand_ahead_of_overs(self):
        one = run(program("cores 2", "task one 1; work 2", "task two 1; sleep 2"))
        self.assertEqual(one.moments[1][1][:2], (("wake", "two", 5), ("over", "one", 3)))

    def test_end_stands_ahead_of_go(self):
        one = run(program("task one 1; wait two", "task two 1; say 1"))
        self.assertEqual(one.events[4:6], (("end", "two", 4), ("go", "one", 3)))
