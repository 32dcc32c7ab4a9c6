"""Section 6: each statement."""

from tests.telling import RunCase


class StatementsTest(RunCase):

    def test_work_costs_its_ticks(self):
        self.runs(["task one 1; work 3; work 99"], [
            "0: run one 0, step one 3",
            "3: over one 3, step one 4",
            "102: over one 4, end one 2",
        ])

    def test_work_0_is_over_at_once(self):
        # It has no event for this.
        self.runs(["task one 1; work 0; say 1"], [
            "0: run one 0, step one 3, step one 4, end one 2",
        ], outputs=["0 one 1"])

    def test_work_of_a_part(self):
        self.runs(["part dig", "task one 1; work 4 dig; work 4"], [
            "0: run one 0, step one 4",
            "4: over one 4, step one 5",
            "8: over one 5, end one 3",
        ])

    def test_factor_0(self):
        self.runs(["part dig", "task one 1; work 4 dig; work 1"], [
            "0: run one 0, step one 4, step one 5",
            "1: over one 5, end one 3",
        ], dig=0)

    def test_factor_1(self):
        self.runs(["part dig", "task one 1; work 4 dig; work 1"], [
            "0: run one 0, step one 4",
            "4: over one 4, step one 5",
            "5: over one 5, end one 3",
        ], dig=1)

    def test_factor_9(self):
        self.runs(["part dig", "task one 1; work 99 dig; work 1"], [
            "0: run one 0, step one 4",
            "891: over one 4, step one 5",
            "892: over one 5, end one 3",
        ], dig=9)

    def test_factor_that_is_no_whole_number(self):
        self.runs(["part dig", "task one 1; work 4 dig; work 5 dig; work 1"], [
            "0: run one 0, step one 4",
            "8/3: over one 4, step one 5",
            "6: over one 5, step one 6",
            "7: over one 6, end one 3",
        ], dig="2/3")

    def test_factors_of_several_parts(self):
        # A part that is not named has the factor 1.
        self.runs(["part haul", "part dig", "part pave", "task one 1; work 2 dig; work 3 haul; work 4 pave"], [
            "0: run one 0, step one 6",
            "1: over one 6, step one 7",
            "4: over one 7, step one 8",
            "16: over one 8, end one 5",
        ], dig="1/2", pave=3)

    def test_work_0_of_a_part(self):
        self.runs(["part dig", "task one 1; work 0 dig; work 1"], [
            "0: run one 0, step one 4, step one 5",
            "1: over one 5, end one 3",
        ], dig=9)

    def test_sleeps_and_slices_have_no_factor(self):
        self.runs(["slice 2", "part dig", "task one 1; work 3 dig; sleep 4", "task two 1; work 1 dig"], [
            "0: run one 0, step one 4",
            "2: slice one 0, run two 0, step two 7",
            "4: over two 7, slice two 0, run one 0",
            "6: slice one 0, run two 0, end two 6, run one 0",
            "8: over one 4, step one 5",
            "12: wake one 5, run one 0, end one 3",
        ], dig=2)

    def test_sleep(self):
        self.runs(["task one 1; sleep 4; say 1"], [
            "0: run one 0, step one 3",
            "4: wake one 3, run one 0, step one 4, end one 2",
        ], outputs=["4 one 1"])

    def test_sleep_99(self):
        self.runs(["task one 1; sleep 99"], [
            "0: run one 0, step one 3",
            "99: wake one 3, run one 0, end one 2",
        ])

    def test_sleep_0_wakes_in_the_same_step(self):
        self.runs(["task one 1; sleep 0; say 1"], [
            "0: run one 0, step one 3, wake one 3, run one 0, step one 4, end one 2",
        ], outputs=["0 one 1"])

    def test_sleep_0_lets_others_run(self):
        # two has the lesser ticket then.
        self.runs(["task one 1; sleep 0; say 1", "task two 1; say 2"], [
            "0: run one 0, step one 3, wake one 3, run two 0, step two 6, end two 5, run one 0, step one 4, "
            "end one 2",
        ], outputs=["0 two 2", "0 one 1"])

    def test_sleep_0_of_a_greater_rank(self):
        # one is the best one again.
        self.runs(["task one 2; sleep 0; say 1", "task two 1; say 2"], [
            "0: run one 0, step one 3, wake one 3, run one 0, step one 4, end one 2, run two 0, step two 6, "
            "end two 5",
        ], outputs=["0 one 1", "0 two 2"])

    def test_sleeping_task_leaves_its_core(self):
        self.runs(["task one 1; sleep 2; say 1", "task two 1; work 3"], [
            "0: run one 0, step one 3, run two 0, step two 6",
            "2: wake one 3",
            "3: over two 6, end two 5, run one 0, step one 4, end one 2",
        ], outputs=["3 one 1"])

    def test_lock_that_is_free(self):
        self.runs(["lock a", "task one 1; lock a; work 1; unlock a; lock a; unlock a"], [
            "0: run one 0, step one 4, step one 5",
            "1: over one 5, step one 6, step one 7, step one 8, end one 3",
        ])

    def test_lock_that_is_held(self):
        # two waits, and goes on behind its lock.
        rows = [
            "cores 2", "lock a", "task one 1; lock a; work 2; unlock a; work 1",
            "task two 1; lock a; work 1; unlock a",
        ]
        self.runs(rows, [
            "0: run one 0, run two 1, step one 4, step one 5, step two 9",
            "2: over one 5, step one 6, go two 9, run two 1, step one 7, step two 10",
            "3: over one 7, over two 10, end one 3, step two 11, end two 8",
        ])

    def test_unlock_hands_the_lock_over(self):
        # one wants it again, but two has it already.
        rows = [
            "cores 2", "lock a", "task one 1; lock a; work 1; unlock a; lock a; unlock a",
            "task two 1; lock a; work 1; unlock a",
        ]
        self.runs(rows, [
            "0: run one 0, run two 1, step one 4, step one 5, step two 10",
            "1: over one 5, step one 6, go two 10, run two 1, step one 7, step two 11",
            "2: over two 11, step two 12, go one 7, run one 0, step one 8, end one 3, end two 9",
        ])

    def test_two_locks(self):
        rows = [
            "lock a", "lock b", "task one 1; lock a; sleep 1; lock b; unlock b; unlock a",
            "task two 1; lock b; sleep 1; unlock b",
        ]
        self.runs(rows, [
            "0: run one 0, step one 5, step one 6, run two 0, step two 11, step two 12",
            "1: wake one 6, wake two 12, run one 0, step one 7, run two 0, step two 13, go one 7, end two 10, "
            "run one 0, step one 8, step one 9, end one 4",
        ])

    def test_lock_of_an_ended_task_is_never_free(self):
        self.runs(["lock a", "task one 1; lock a", "task two 1; lock a"], [
            "0: run one 0, step one 4, end one 3, run two 0, step two 6",
        ], "stuck")

    def test_put_with_room(self):
        self.runs(["queue pipe 2", "task one 1; put pipe 3; put pipe 4; say 1"], [
            "0: run one 0, step one 4, step one 5, step one 6, end one 3",
        ], outputs=["0 one 1"])

    def test_put_without_room(self):
        # The third value has to wait until two takes the first one.
        rows = [
            "queue pipe 2", "task one 1; put pipe 3; put pipe 4; put pipe 5; say 1",
            "task two 1; sleep 2; take pipe x; take pipe y; take pipe z; say x; say y; say z",
        ]
        self.runs(rows, [
            "0: run one 0, step one 4, step one 5, step one 6, run two 0, step two 9",
            "2: wake two 9, run two 0, step two 10, go one 6, step two 11, step two 12, step two 13, "
            "step two 14, step two 15, end two 8, run one 0, step one 7, end one 3",
        ], outputs=["2 two 3", "2 two 4", "2 two 5", "2 one 1"])

    def test_put_while_somebody_waits(self):
        # The value goes to who waits, not into the queue, which has room for one.
        rows = [
            "queue pipe 1", "task one 1; take pipe x; say x", "task two 1; put pipe 7; put pipe 8; say 2",
        ]
        self.runs(rows, [
            "0: run one 0, step one 4, run two 0, step two 7, go one 4, step two 8, step two 9, end two 6, "
            "run one 0, step one 5, end one 3",
        ], outputs=["0 two 2", "0 one 7"])

    def test_put_while_several_wait(self):
        # The greatest rank is first, then who began to wait first.
        rows = [
            "queue pipe 2", "task one 1; take pipe x; say x", "task two 1; take pipe x; say x",
            "task tri 2; sleep 1; take pipe x; say x", "task four 1; sleep 2; put pipe 5; put pipe 6; put pipe 7",
        ]
        self.runs(rows, [
            "0: run tri 0, step tri 10, run one 0, step one 4, run two 0, step two 7, run four 0, step four 14",
            "1: wake tri 10, run tri 0, step tri 11",
            "2: wake four 14, run four 0, step four 15, go tri 11, stop four 0, run tri 0, step tri 12, "
            "end tri 9, run four 0, step four 16, go one 4, step four 17, go two 7, end four 13, run one 0, "
            "step one 5, end one 3, run two 0, step two 8, end two 6",
        ], outputs=["2 tri 5", "2 one 6", "2 two 7"])

    def test_take_from_an_empty_queue(self):
        self.runs(["queue pipe 1", "task one 1; take pipe x; say x", "task two 1; work 2; put pipe 5"], [
            "0: run one 0, step one 4, run two 0, step two 7",
            "2: over two 7, step two 8, go one 4, end two 6, run one 0, step one 5, end one 3",
        ], outputs=["2 one 5"])

    def test_take_a_value(self):
        # The eldest one.
        rows = [
            "queue pipe 3", "task one 1; put pipe 3; put pipe 4; put pipe 5; take pipe x; take pipe y; say x; say y",
        ]
        self.runs(rows, [
            "0: run one 0, step one 4, step one 5, step one 6, step one 7, step one 8, step one 9, step one 10, "
            "end one 3",
        ], outputs=["0 one 3", "0 one 4"])

    def test_take_lets_one_that_waits_for_room_go(self):
        # Its value comes behind those in the queue.
        rows = [
            "queue pipe 1", "task one 1; put pipe 1; put pipe 2; say 10",
            "task two 1; take pipe x; take pipe y; say x; say y",
        ]
        self.runs(rows, [
            "0: run one 0, step one 4, step one 5, run two 0, step two 8, go one 5, step two 9, step two 10, "
            "step two 11, end two 7, run one 0, step one 6, end one 3",
        ], outputs=["0 two 1", "0 two 2", "0 one 10"])

    def test_take_while_several_wait_for_room(self):
        # The greatest rank is first, then who began to wait first.
        rows = [
            "queue pipe 1", "task one 1; put pipe 1; put pipe 2", "task two 1; put pipe 3",
            "task tri 2; sleep 1; put pipe 4",
            "task four 1; sleep 2; take pipe a; take pipe b; take pipe c; take pipe d; say a; say b; say c; say d",
        ]
        self.runs(rows, [
            "0: run tri 0, step tri 9, run one 0, step one 4, step one 5, run two 0, step two 7, run four 0, "
            "step four 12",
            "1: wake tri 9, run tri 0, step tri 10",
            "2: wake four 12, run four 0, step four 13, go tri 10, stop four 0, run tri 0, end tri 8, "
            "run four 0, step four 14, go one 5, step four 15, go two 7, step four 16, step four 17, "
            "step four 18, step four 19, step four 20, end four 11, run one 0, end one 3, run two 0, end two 6",
        ], outputs=["2 four 1", "2 four 4", "2 four 2", "2 four 3"])

    def test_start(self):
        self.runs(["task one 1; work 1; start two; work 1; say 1", "task two 1 later; say 2"], [
            "0: run one 0, step one 3",
            "1: over one 3, step one 4, step one 5",
            "2: over one 5, step one 6, end one 2, run two 0, step two 8, end two 7",
        ], outputs=["2 one 1", "2 two 2"])

    def test_start_of_a_task_ahead(self):
        self.runs(["task two 1 later; say 2", "task one 1; start two; say 1"], [
            "0: run one 0, step one 5, step one 6, end one 4, run two 0, step two 3, end two 2",
        ], outputs=["0 one 1", "0 two 2"])

    def test_start_in_the_sequence_of_statements(self):
        # two is started last, and comes last.
        self.runs(["task one 1; start tri; start two", "task two 1 later; say 2", "task tri 1 later; say 3"], [
            "0: run one 0, step one 3, step one 4, end one 2, run tri 0, step tri 8, end tri 7, run two 0, "
            "step two 6, end two 5",
        ], outputs=["0 tri 3", "0 two 2"])

    def test_wait_for_a_task_that_has_ended(self):
        self.runs(["task one 2; say 1", "task two 1; wait one; say 2"], [
            "0: run one 0, step one 3, end one 2, run two 0, step two 5, step two 6, end two 4",
        ], outputs=["0 one 1", "0 two 2"])

    def test_wait_for_a_task_that_ends_later(self):
        self.runs(["task one 1; wait two; say 1", "task two 1; work 3"], [
            "0: run one 0, step one 3, run two 0, step two 6",
            "3: over two 6, end two 5, go one 3, run one 0, step one 4, end one 2",
        ], outputs=["3 one 1"])

    def test_wait_for_ever(self):
        # two never begins, and tri waits for itself.
        self.runs(["task one 1; wait two; say 1", "task two 1 later; say 2", "task tri 1; wait tri"], [
            "0: run one 0, step one 3, run tri 0, step tri 8",
        ], "stuck")

    def test_several_wait_for_a_task(self):
        # They go in the sequence of the tasks, whoever began to wait first, and whatever their ranks are.
        rows = [
            "cores 2", "task one 1; sleep 1; wait four; say 1", "task two 2; wait four; say 2",
            "task tri 3; wait four; say 3", "task four 1; work 2",
        ]
        self.runs(rows, [
            "0: run tri 0, run two 1, step tri 10, run one 0, step one 3, run four 0, step four 13, step two 7",
            "1: wake one 3, run one 1, step one 4",
            "2: over four 13, end four 12, go one 4, go two 7, go tri 10, run tri 0, run two 1, step tri 11, "
            "end tri 9, run one 0, step one 5, end one 2, step two 8, end two 6",
        ], outputs=["2 tri 3", "2 one 1", "2 two 2"])

    def test_task_that_was_started_is_waited_for(self):
        self.runs(["task one 1; start two; wait two; say 1", "task two 1 later; work 2"], [
            "0: run one 0, step one 3, step one 4, run two 0, step two 7",
            "2: over two 7, end two 6, go one 4, run one 0, step one 5, end one 2",
        ], outputs=["2 one 1"])

    def test_if_else(self):
        self.runs(["task one 1; if 1; say 1; else; say 2; end; if 0; say 3; else; say 4; end; say 5"], [
            "0: run one 0, step one 3, step one 4, step one 8, step one 11, step one 13, end one 2",
        ], outputs=["0 one 1", "0 one 4", "0 one 5"])

    def test_if_without_else(self):
        self.runs(["task one 1; if 7; say 1; end; if 0; say 2; end; say 3"], [
            "0: run one 0, step one 3, step one 4, step one 6, step one 9, end one 2",
        ], outputs=["0 one 1", "0 one 3"])

    def test_if_with_empty_blocks(self):
        self.runs(["task one 1; if 1; else; end; if 0; else; end; if 1; end; if 0; end"], [
            "0: run one 0, step one 3, step one 6, step one 9, step one 11, end one 2",
        ])

    def test_if_at_the_end(self):
        self.runs(["task one 1; if 0; say 1; end", "task two 1; if 1; say 2; else; say 3; end"], [
            "0: run one 0, step one 3, end one 2, run two 0, step two 7, step two 8, end two 6",
        ], outputs=["0 two 2"])

    def test_while(self):
        self.runs(["task one 1; while x < 2; x = x + 1; say x; end; say 9"], [
            "0: run one 0, step one 3, step one 4, step one 5, step one 3, step one 4, step one 5, step one 3, "
            "step one 7, end one 2",
        ], outputs=["0 one 1", "0 one 2", "0 one 9"])

    def test_while_never(self):
        self.runs(["task one 1; while 0; say 1; end; say 2"], [
            "0: run one 0, step one 3, step one 6, end one 2",
        ], outputs=["0 one 2"])

    def test_while_of_a_cell(self):
        # two ends it.
        rows = [
            "cores 2", "cell busy 1", "task one 1; while busy; sleep 1; end; say 1", "task two 1; sleep 2; busy = 0",
        ]
        self.runs(rows, [
            "0: run one 0, run two 1, step one 4, step one 5, step two 9",
            "1: wake one 5, run one 0, step one 4, step one 5",
            "2: wake one 5, wake two 9, run one 0, run two 1, step one 4, step one 5, step two 10, end two 8",
            "3: wake one 5, run one 0, step one 4, step one 7, end one 3",
        ], outputs=["3 one 1"])

    def test_repeat(self):
        # Its line is taken once more than it is gone through.
        self.runs(["task one 1; repeat 2; say 1; end; say 2"], [
            "0: run one 0, step one 3, step one 4, step one 3, step one 4, step one 3, step one 6, end one 2",
        ], outputs=["0 one 1", "0 one 1", "0 one 2"])

    def test_repeat_0(self):
        self.runs(["task one 1; repeat 0; say 1; end; say 2"], [
            "0: run one 0, step one 3, step one 6, end one 2",
        ], outputs=["0 one 2"])

    def test_repeat_empty(self):
        self.runs(["task one 1; repeat 3; end"], [
            "0: run one 0, step one 3, step one 3, step one 3, step one 3, end one 2",
        ])

    def test_repeat_in_repeat(self):
        # The inner one begins anew each time that one comes to it from outside.
        self.runs(["task one 1; repeat 2; repeat 2; say 1; end; end"], [
            "0: run one 0, step one 3, step one 4, step one 5, step one 4, step one 5, step one 4, step one 3, "
            "step one 4, step one 5, step one 4, step one 5, step one 4, step one 3, end one 2",
        ], outputs=["0 one 1", "0 one 1", "0 one 1", "0 one 1"])

    def test_repeat_in_while(self):
        self.runs(["task one 1; while x < 2; x = x + 1; repeat 1; say x; end; end"], [
            "0: run one 0, step one 3, step one 4, step one 5, step one 6, step one 5, step one 3, step one 4, "
            "step one 5, step one 6, step one 5, step one 3, end one 2",
        ], outputs=["0 one 1", "0 one 2"])

    def test_repeat_of_two_tasks(self):
        # Each one counts for itself.
        self.runs(["slice 1", "task one 1; repeat 2; work 1; end", "task two 1; repeat 1; work 1; end"], [
            "0: run one 0, step one 3, step one 4",
            "1: over one 4, slice one 0, run two 0, step two 7, step two 8",
            "2: over two 8, slice two 0, run one 0, step one 3, step one 4",
            "3: over one 4, slice one 0, run two 0, step two 7, end two 6, run one 0, step one 3, end one 2",
        ])

    def test_if_in_while_in_repeat(self):
        rows = [
            "task one 1; repeat 2; while x < 2; x = x + 1; if x = 1; say 1; else; say 2; end; end; x = 0; end",
        ]
        self.runs(rows, [
            "0: run one 0, step one 3, step one 4, step one 5, step one 6, step one 7, step one 4, step one 5, "
            "step one 6, step one 9, step one 4, step one 12, step one 3, step one 4, step one 5, step one 6, "
            "step one 7, step one 4, step one 5, step one 6, step one 9, step one 4, step one 12, step one 3, "
            "end one 2",
        ], outputs=["0 one 1", "0 one 2", "0 one 1", "0 one 2"])

    def test_if_at_the_end_of_a_while(self):
        # Behind it one comes to the line of the while.
        self.runs(["task one 1; while x < 2; if x; x = 5; else; x = 1; end; end; say x"], [
            "0: run one 0, step one 3, step one 4, step one 7, step one 3, step one 4, step one 5, step one 3, "
            "step one 10, end one 2",
        ], outputs=["0 one 5"])

    def test_six_blocks_in_one_another(self):
        rows = [
            "task one 1; if 1; while x < 1; repeat 1; if 1; repeat 1; if 0",
            "else; x = 1; end; end; end; end; end; end; say x",
        ]
        self.runs(rows, [
            "0: run one 0, step one 3, step one 4, step one 5, step one 6, step one 7, step one 8, step one 10, "
            "step one 7, step one 5, step one 4, step one 17, end one 2",
        ], outputs=["0 one 1"])

    def test_while_at_the_end_of_a_task(self):
        # The task ends when its turn comes again.
        self.runs(["task one 1; x = 1; while x; x = 0; end", "task two 1; say 1"], [
            "0: run one 0, step one 3, step one 4, step one 5, step one 4, end one 2, run two 0, step two 8, "
            "end two 7",
        ], outputs=["0 two 1"])
