"""Section 6: cores, ranks, tickets and slices."""

from tests.telling import RunCase


class CoresTest(RunCase):

    def test_best_ready_gets_least_free_core(self):
        # By rank, then by ticket; tri and one wait for a core.
        rows = [
            "cores 2", "task one 1; work 1", "task two 3; work 2", "task tri 2; work 3", "task four 3; work 1",
        ]
        self.runs(rows, [
            "0: run two 0, run four 1, step two 5, step four 9",
            "1: over four 9, end four 8, run tri 1, step tri 7",
            "2: over two 5, end two 4, run one 0, step one 3",
            "3: over one 3, end one 2",
            "4: over tri 7, end tri 6",
        ])

    def test_free_core_goes_ahead_of_a_stop(self):
        # At 2 core 0 is free, so that nobody is stopped.
        self.runs(["cores 2", "task one 1; work 5", "task two 1; work 1", "task top 3; sleep 2; work 1"], [
            "0: run top 0, run one 1, step top 7, run two 0, step two 5, step one 3",
            "1: over two 5, end two 4",
            "2: wake top 7, run top 0, step top 8",
            "3: over top 8, end top 6",
            "5: over one 3, end one 2",
        ])

    def test_least_free_core(self):
        # At 3 cores 1 and 2 are free, the greater one for longer.
        rows = [
            "cores 3", "task one 1; work 2", "task two 1; work 1", "task tri 1; work 9",
            "task four 2; sleep 3; work 1",
        ]
        self.runs(rows, [
            "0: run four 0, run one 1, run two 2, step four 9, run tri 0, step tri 7, step one 3, step two 5",
            "1: over two 5, end two 4",
            "2: over one 3, end one 2",
            "3: wake four 9, run four 1, step four 10",
            "4: over four 10, end four 8",
            "9: over tri 7, end tri 6",
        ])

    def test_least_rank_is_stopped(self):
        # Not mid, which has the greater ticket.
        self.runs(["cores 2", "task low 1; work 6", "task mid 2; work 6", "task top 3; sleep 2; work 1"], [
            "0: run top 0, run mid 1, step top 7, run low 0, step low 3, step mid 5",
            "2: wake top 7, stop low 0, run top 0, step top 8",
            "3: over top 8, end top 6, run low 0",
            "6: over mid 5, end mid 4",
            "7: over low 3, end low 2",
        ])

    def test_greatest_ticket_is_stopped(self):
        # one and two have the same rank; that of two is the greater ticket, though the core is the least.
        self.runs(["cores 2", "task top 3; sleep 2; work 2", "task one 1; work 4", "task two 1; work 4"], [
            "0: run top 0, run one 1, step top 3, run two 0, step two 8, step one 6",
            "2: wake top 3, stop two 0, run top 0, step top 4",
            "4: over top 4, over one 6, end top 2, run two 0, end one 5",
            "6: over two 8, end two 7",
        ])

    def test_two_are_stopped_in_one_moment(self):
        rows = [
            "cores 2", "task one 1; work 4", "task two 2; work 4", "task top 3; sleep 2; work 1",
            "task high 4; sleep 2; work 2",
        ]
        self.runs(rows, [
            "0: run high 0, run top 1, step high 10, run two 0, step two 5, step top 7, run one 1, step one 3",
            "2: wake top 7, wake high 10, stop one 1, run high 1, stop two 0, run top 0, step top 8, step high 11",
            "3: over top 8, end top 6, run two 0",
            "4: over high 11, end high 9, run one 1",
            "5: over two 5, end two 4",
            "6: over one 3, end one 2",
        ])

    def test_equal_rank_stops_nobody(self):
        self.runs(["task two 2; sleep 1; work 1", "task one 2; work 4"], [
            "0: run two 0, step two 3, run one 0, step one 6",
            "1: wake two 3",
            "4: over one 6, end one 5, run two 0, step two 4",
            "5: over two 4, end two 2",
        ])

    def test_stop_goes_ahead_of_a_slice(self):
        # At 3 the slice of mid is over, but low has a lesser rank than also.
        rows = [
            "cores 2", "slice 3", "task mid 2; work 5", "task also 2; sleep 3; work 1", "task low 1; work 6",
        ]
        self.runs(rows, [
            "0: run mid 0, run also 1, step mid 3, step also 5, run low 1, step low 8",
            "3: wake also 5, stop low 1, run also 1, step also 6",
            "4: over also 6, end also 4, run low 1",
            "5: over mid 3, end mid 2",
            "7: over low 8, end low 7",
        ])

    def test_stop_of_one_then_slice_of_another(self):
        # At 3 top stops low; then the slice of mid is over, which has the rank of also.
        rows = [
            "cores 2", "slice 3", "task mid 2; work 5", "task low 1; work 4", "task top 3; sleep 3; work 2",
            "task also 2; sleep 3; work 1",
        ]
        self.runs(rows, [
            "0: run top 0, run mid 1, step top 7, run also 0, step also 10, run low 0, step low 5, step mid 3",
            "3: wake top 7, wake also 10, stop low 0, run top 0, slice mid 1, run also 1, step top 8, step also 11",
            "4: over also 11, end also 9, run mid 1",
            "5: over top 8, end top 6, run low 0",
            "6: over low 5, over mid 3, end low 4, end mid 2",
        ])

    def test_stopped_task_keeps_its_ticket(self):
        # one is stopped by top, and goes on ahead of two, which was ready before.
        self.runs(["task one 1; work 4", "task two 1; work 1", "task top 2; sleep 2; work 1"], [
            "0: run top 0, step top 7, run one 0, step one 3",
            "2: wake top 7, stop one 0, run top 0, step top 8",
            "3: over top 8, end top 6, run one 0",
            "5: over one 3, end one 2, run two 0, step two 5",
            "6: over two 5, end two 4",
        ])

    def test_woken_task_gets_a_new_ticket(self):
        # one sleeps, and comes behind two and tri then.
        self.runs(["task one 1; sleep 1; work 1", "task two 1; work 2", "task tri 1; work 2"], [
            "0: run one 0, step one 3, run two 0, step two 6",
            "1: wake one 3",
            "2: over two 6, end two 5, run tri 0, step tri 8",
            "4: over tri 8, end tri 7, run one 0, step one 4",
            "5: over one 4, end one 2",
        ])

    def test_slice_gives_a_new_ticket(self):
        # one loses its core by its slice, and stands behind two and tri.
        self.runs(["slice 1", "task one 1; work 2", "task two 1; work 2", "task tri 1; work 1"], [
            "0: run one 0, step one 3",
            "1: slice one 0, run two 0, step two 5",
            "2: slice two 0, run tri 0, step tri 7",
            "3: over tri 7, slice tri 0, run one 0",
            "4: over one 3, slice one 0, run two 0",
            "5: over two 5, slice two 0, run tri 0, end tri 6, run one 0, end one 2, run two 0, end two 4",
        ])

    def test_ticket_of_a_task_that_was_let_go(self):
        # two gets the lock at 2, just behind tri's waking.
        rows = [
            "lock a", "task one 1; lock a; sleep 2; unlock a; work 2", "task two 1; lock a; work 1",
            "task tri 1; work 2; sleep 0; work 1",
        ]
        self.runs(rows, [
            "0: run one 0, step one 4, step one 5, run two 0, step two 9, run tri 0, step tri 12",
            "2: wake one 5, over tri 12, step tri 13, wake tri 13, run one 0, step one 6, go two 9, step one 7",
            "4: over one 7, end one 3, run tri 0, step tri 14",
            "5: over tri 14, end tri 11, run two 0, step two 10",
            "6: over two 10, end two 8",
        ])

    def test_ticket_of_a_task_that_is_started(self):
        rows = [
            "task one 1; work 1; start two; sleep 0; work 1", "task two 1 later; work 1", "task tri 1; work 2",
        ]
        self.runs(rows, [
            "0: run one 0, step one 3",
            "1: over one 3, step one 4, step one 5, wake one 5, run tri 0, step tri 10",
            "3: over tri 10, end tri 9, run two 0, step two 8",
            "4: over two 8, end two 7, run one 0, step one 6",
            "5: over one 6, end one 2",
        ])

    def test_fresh_slice_behind_a_stop(self):
        # one was stopped at 2, and has its core from 3 on for a whole slice again.
        self.runs(["slice 4", "task one 1; work 7", "task two 1; work 1", "task top 2; sleep 2; work 1"], [
            "0: run top 0, step top 7, run one 0, step one 3",
            "2: wake top 7, stop one 0, run top 0, step top 8",
            "3: over top 8, end top 6, run one 0",
            "7: slice one 0, run two 0, step two 5",
            "8: over two 5, end two 4, run one 0",
            "9: over one 3, end one 2",
        ])

    def test_slice_goes_on_over_several_works(self):
        # The slice counts from when the task got its core, whatever it works on.
        self.runs(["slice 3", "task one 1; work 2; work 2", "task two 1; work 1"], [
            "0: run one 0, step one 3",
            "2: over one 3, step one 4",
            "3: slice one 0, run two 0, step two 6",
            "4: over two 6, end two 5, run one 0",
            "5: over one 4, end one 2",
        ])

    def test_slice_that_was_over_already(self):
        # Nobody rivals one from 4 on; two wakes at 7, and gets the core at once.
        self.runs(["slice 2", "task one 1; work 8", "task two 1; sleep 5; work 1"], [
            "0: run one 0, step one 3",
            "2: slice one 0, run two 0, step two 5, run one 0",
            "7: wake two 5, slice one 0, run two 0, step two 6",
            "8: over two 6, end two 4, run one 0",
            "9: over one 3, end one 2",
        ])

    def test_slice_that_was_over_already_of_two_cores(self):
        # Both slices are over at 5; the least core is given up first, though its task got it last.
        rows = [
            "cores 2", "slice 2", "task one 1; sleep 1; work 7", "task two 1; work 9", "task tri 1; sleep 5; work 1",
        ]
        self.runs(rows, [
            "0: run one 0, run two 1, step one 3, run tri 0, step tri 8, step two 6",
            "1: wake one 3, run one 0, step one 4",
            "5: wake tri 8, slice one 0, run tri 0, slice two 1, run one 1, step tri 9",
            "6: over tri 9, end tri 7, run two 0",
            "8: over one 4, end one 2",
            "10: over two 6, end two 5",
        ])

    def test_slice_of_another_rank_does_not_count(self):
        self.runs(["slice 2", "task one 2; work 5", "task two 1; work 1"], [
            "0: run one 0, step one 3",
            "5: over one 3, end one 2, run two 0, step two 5",
            "6: over two 5, end two 4",
        ])

    def test_slice_0_never_is_over(self):
        self.runs(["slice 0", "task one 1; work 5", "task two 1; work 5"], [
            "0: run one 0, step one 3",
            "5: over one 3, end one 2, run two 0, step two 5",
            "10: over two 5, end two 4",
        ])

    def test_no_slice_without_a_rival(self):
        self.runs(["slice 2", "task one 1; work 5"], [
            "0: run one 0, step one 3",
            "5: over one 3, end one 2",
        ])

    def test_slice_that_ends_with_a_work(self):
        # At 2 one is through with its work, but loses its core before it goes on.
        self.runs(["slice 2", "task one 1; work 2; say 1", "task two 1; work 1"], [
            "0: run one 0, step one 3",
            "2: over one 3, slice one 0, run two 0, step two 6",
            "3: over two 6, end two 5, run one 0, step one 4, end one 2",
        ])

    def test_work_that_ends_with_a_sleep(self):
        self.runs(["task one 1; work 2; say 1", "task two 2; sleep 2; say 2"], [
            "0: run two 0, step two 6, run one 0, step one 3",
            "2: wake two 6, over one 3, stop one 0, run two 0, step two 7, end two 5, run one 0, step one 4, "
            "end one 2",
        ])

    def test_two_sleeps_that_end_together(self):
        # They wake in the sequence of the tasks, not in that in which they fell asleep.
        self.runs(["task one 1; work 1; sleep 2; say 1", "task two 2; sleep 3; say 2"], [
            "0: run two 0, step two 7, run one 0, step one 3",
            "1: over one 3, step one 4",
            "3: wake one 4, wake two 7, run two 0, step two 8, end two 6, run one 0, step one 5, end one 2",
        ])

    def test_two_works_that_end_together(self):
        # By core.
        self.runs(["cores 2", "task one 1; work 2; say 1", "task two 2; work 2; say 2"], [
            "0: run two 0, run one 1, step two 6, step one 3",
            "2: over two 6, over one 3, step two 7, end two 5, step one 4, end one 2",
        ])

    def test_sleep_work_and_slice_that_end_together(self):
        rows = [
            "cores 2", "slice 2", "task one 1; work 2", "task two 1; work 4", "task tri 1; work 3",
            "task four 2; sleep 2; work 1",
        ]
        self.runs(rows, [
            "0: run four 0, run one 1, step four 9, run two 0, step two 5, step one 3",
            "2: wake four 9, over one 3, stop two 0, run four 0, slice one 1, run two 1, step four 10",
            "3: over four 10, end four 8, run tri 0, step tri 7",
            "4: over two 5, slice two 1, run one 1, end one 2, run two 1, end two 4",
            "6: over tri 7, end tri 6",
        ])

    def test_three_slices(self):
        # Three tasks in turn on two cores.
        self.runs(["cores 2", "slice 1", "task one 1; work 2", "task two 1; work 2", "task tri 1; work 2"], [
            "0: run one 0, run two 1, step one 3, step two 5",
            "1: slice one 0, run tri 0, slice two 1, run one 1, step tri 7",
            "2: over one 3, slice tri 0, run two 0, slice one 1, run tri 1",
            "3: over two 5, over tri 7, slice two 0, run one 0, slice tri 1, run two 1, end one 2, run tri 0, "
            "end tri 6, end two 4",
        ])

    def test_stopped_amid_a_work(self):
        # one has 3 ticks left at 2, and 1 tick at 6; its work is over at 9.
        self.runs(["task one 1; work 5", "task top 2; sleep 2; work 2; sleep 2; work 2"], [
            "0: run top 0, step top 5, run one 0, step one 3",
            "2: wake top 5, stop one 0, run top 0, step top 6",
            "4: over top 6, step top 7, run one 0",
            "6: wake top 7, stop one 0, run top 0, step top 8",
            "8: over top 8, end top 4, run one 0",
            "9: over one 3, end one 2",
        ])

    def test_stopped_before_its_first_step(self):
        # At 0 two gets core 0, and is stopped by what one starts before it takes a step.
        rows = [
            "cores 2", "task one 3; start top; work 2", "task two 1; work 1", "task top 2 later; work 1",
        ]
        self.runs(rows, [
            "0: run one 0, run two 1, step one 3, stop two 1, run top 1, step one 4, step top 8",
            "1: over top 8, end top 7, run two 1, step two 6",
            "2: over one 4, over two 6, end one 2, end two 5",
        ])

    def test_work_goes_on_on_another_core(self):
        self.runs(["cores 2", "task one 1; work 6", "task two 2; work 3", "task top 3; sleep 1; work 3"], [
            "0: run top 0, run two 1, step top 7, run one 0, step one 3, step two 5",
            "1: wake top 7, stop one 0, run top 0, step top 8",
            "3: over two 5, end two 4, run one 1",
            "4: over top 8, end top 6",
            "8: over one 3, end one 2",
        ])

    def test_steps_by_core(self):
        # Each step is that of the least core that is not in a work.
        self.runs(["cores 2", "task one 1; say 1; say 2; work 1", "task two 1; say 3; work 1; say 4"], [
            "0: run one 0, run two 1, step one 3, step one 4, step one 5, step two 7, step two 8",
            "1: over one 5, over two 8, end one 2, step two 9, end two 6",
        ])

    def test_started_task_takes_its_core_at_once(self):
        self.runs(["task one 1; start two; say 1", "task two 2 later; say 2"], [
            "0: run one 0, step one 3, stop one 0, run two 0, step two 6, end two 5, run one 0, step one 4, "
            "end one 2",
        ])
