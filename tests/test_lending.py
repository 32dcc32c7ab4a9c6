"""Section 6: lent locks, and who gets a lock."""

from tests.telling import RunCase


class LendingTest(RunCase):

    def test_rank_is_lent(self):
        # From 2 on low has rank 3, so that mid does not stop it at 3.
        rows = [
            "lock a lent", "task low 1; lock a; work 4; unlock a; work 1", "task mid 2; sleep 3; work 2",
            "task top 3; sleep 2; lock a; work 1; unlock a",
        ]
        self.runs(rows, [
            "0: run top 0, step top 12, run mid 0, step mid 9, run low 0, step low 4, step low 5",
            "2: wake top 12, stop low 0, run top 0, step top 13, run low 0",
            "3: wake mid 9",
            "4: over low 5, step low 6, go top 13, stop low 0, run top 0, step top 14",
            "5: over top 14, step top 15, end top 11, run mid 0, step mid 10",
            "7: over mid 10, end mid 8, run low 0, step low 7",
            "8: over low 7, end low 3",
        ])

    def test_lock_without_lent_lends_nothing(self):
        rows = [
            "lock a", "task low 1; lock a; work 4; unlock a; work 1", "task mid 2; sleep 3; work 2",
            "task top 3; sleep 2; lock a; work 1; unlock a",
        ]
        self.runs(rows, [
            "0: run top 0, step top 12, run mid 0, step mid 9, run low 0, step low 4, step low 5",
            "2: wake top 12, stop low 0, run top 0, step top 13, run low 0",
            "3: wake mid 9, stop low 0, run mid 0, step mid 10",
            "5: over mid 10, end mid 8, run low 0",
            "6: over low 5, step low 6, go top 13, stop low 0, run top 0, step top 14",
            "7: over top 14, step top 15, end top 11, run low 0, step low 7",
            "8: over low 7, end low 3",
        ])

    def test_rank_is_lent_in_turn(self):
        # top waits for mid, and mid for low: all of them have rank 4.
        rows = [
            "lock a lent", "lock b lent", "task low 1; lock a; work 5; unlock a; work 1",
            "task mid 2; sleep 1; lock b; lock a; work 1; unlock a; unlock b", "task loud 3; sleep 3; work 2",
            "task top 4; sleep 2; lock b; work 1; unlock b",
        ]
        self.runs(rows, [
            "0: run top 0, step top 20, run loud 0, step loud 17, run mid 0, step mid 10, run low 0, "
            "step low 5, step low 6",
            "1: wake mid 10, stop low 0, run mid 0, step mid 11, step mid 12, run low 0",
            "2: wake top 20, stop low 0, run top 0, step top 21, run low 0",
            "3: wake loud 17",
            "5: over low 6, step low 7, go mid 12, stop low 0, run mid 0, step mid 13",
            "6: over mid 13, step mid 14, step mid 15, go top 21, stop mid 0, run top 0, step top 22",
            "7: over top 22, step top 23, end top 19, run loud 0, step loud 18",
            "9: over loud 18, end loud 16, run mid 0, end mid 9, run low 0, step low 8",
            "10: over low 8, end low 4",
        ])

    def test_rank_is_not_lent_in_turn_over_a_lock_without_lent(self):
        # top lends its rank to mid, but mid lends nothing to low.
        rows = [
            "lock a", "lock b lent", "task low 1; lock a; work 5; unlock a; work 1",
            "task mid 2; sleep 1; lock b; lock a; work 1; unlock a; unlock b", "task loud 3; sleep 3; work 2",
            "task top 4; sleep 2; lock b; work 1; unlock b",
        ]
        self.runs(rows, [
            "0: run top 0, step top 20, run loud 0, step loud 17, run mid 0, step mid 10, run low 0, "
            "step low 5, step low 6",
            "1: wake mid 10, stop low 0, run mid 0, step mid 11, step mid 12, run low 0",
            "2: wake top 20, stop low 0, run top 0, step top 21, run low 0",
            "3: wake loud 17, stop low 0, run loud 0, step loud 18",
            "5: over loud 18, end loud 16, run low 0",
            "7: over low 6, step low 7, go mid 12, stop low 0, run mid 0, step mid 13",
            "8: over mid 13, step mid 14, step mid 15, go top 21, stop mid 0, run top 0, step top 22",
            "9: over top 22, step top 23, end top 19, run mid 0, end mid 9, run low 0, step low 8",
            "10: over low 8, end low 4",
        ])

    def test_rank_is_lent_by_two(self):
        # low has rank 2 from 1 on, and rank 4 from 2 on; tri comes too late with 3.
        rows = [
            "lock a lent", "task low 1; lock a; work 6; unlock a; work 1",
            "task two 2; sleep 1; lock a; work 1; unlock a", "task tri 3; sleep 3; work 1",
            "task top 4; sleep 2; lock a; work 1; unlock a",
        ]
        self.runs(rows, [
            "0: run top 0, step top 17, run tri 0, step tri 14, run two 0, step two 9, run low 0, step low 4, "
            "step low 5",
            "1: wake two 9, stop low 0, run two 0, step two 10, run low 0",
            "2: wake top 17, stop low 0, run top 0, step top 18, run low 0",
            "3: wake tri 14",
            "6: over low 5, step low 6, go top 18, stop low 0, run top 0, step top 19",
            "7: over top 19, step top 20, go two 10, end top 16, run tri 0, step tri 15",
            "8: over tri 15, end tri 13, run two 0, step two 11",
            "9: over two 11, step two 12, end two 8, run low 0, step low 7",
            "10: over low 7, end low 3",
        ])

    def test_rank_is_lent_over_two_locks(self):
        # At 3 low gives b back, and has rank 3 that tri lends it over a; two cannot stop it at 4.
        rows = [
            "lock a lent", "lock b lent", "task low 1; lock a; lock b; work 3; unlock b; work 2; unlock a; work 1",
            "task two 2; sleep 4; work 1", "task tri 3; sleep 1; lock a; unlock a",
            "task top 4; sleep 2; lock b; unlock b",
        ]
        self.runs(rows, [
            "0: run top 0, step top 20, run tri 0, step tri 16, run two 0, step two 13, run low 0, step low 5, "
            "step low 6, step low 7",
            "1: wake tri 16, stop low 0, run tri 0, step tri 17, run low 0",
            "2: wake top 20, stop low 0, run top 0, step top 21, run low 0",
            "3: over low 7, step low 8, go top 21, stop low 0, run top 0, step top 22, end top 19, run low 0, "
            "step low 9",
            "4: wake two 13",
            "5: over low 9, step low 10, go tri 17, stop low 0, run tri 0, step tri 18, end tri 15, run two 0, "
            "step two 14",
            "6: over two 14, end two 12, run low 0, step low 11",
            "7: over low 11, end low 4",
        ])

    def test_rank_is_gone_with_the_lock(self):
        # At 4 low has rank 1 again; top is let go, and stops it at once.
        rows = [
            "lock a lent", "task low 1; lock a; work 4; unlock a; say 1",
            "task top 3; sleep 2; lock a; say 3; unlock a",
        ]
        self.runs(rows, [
            "0: run top 0, step top 9, run low 0, step low 4, step low 5",
            "2: wake top 9, stop low 0, run top 0, step top 10, run low 0",
            "4: over low 5, step low 6, go top 10, stop low 0, run top 0, step top 11, step top 12, end top 8, "
            "run low 0, step low 7, end low 3",
        ])

    def test_own_rank_stays_if_it_is_greater(self):
        rows = [
            "lock a lent", "task high 3; lock a; sleep 2; work 2; unlock a", "task low 1; lock a; work 1; unlock a",
            "task mid 2; sleep 3; work 1",
        ]
        self.runs(rows, [
            "0: run high 0, step high 4, step high 5, run mid 0, step mid 13, run low 0, step low 9",
            "2: wake high 5, run high 0, step high 6",
            "3: wake mid 13",
            "4: over high 6, step high 7, go low 9, end high 3, run mid 0, step mid 14",
            "5: over mid 14, end mid 12, run low 0, step low 10",
            "6: over low 10, step low 11, end low 8",
        ])

    def test_lent_rank_counts_for_cores_of_ready_tasks(self):
        # At 3 low is ready with rank 3, ahead of mid, which is ready, too.
        rows = [
            "lock a lent", "task low 1; lock a; sleep 3; work 1; unlock a", "task mid 2; sleep 3; work 1",
            "task top 3; sleep 1; lock a; work 1; unlock a",
        ]
        self.runs(rows, [
            "0: run top 0, step top 12, run mid 0, step mid 9, run low 0, step low 4, step low 5",
            "1: wake top 12, run top 0, step top 13",
            "3: wake low 5, wake mid 9, run low 0, step low 6",
            "4: over low 6, step low 7, go top 13, stop low 0, run top 0, step top 14",
            "5: over top 14, step top 15, end top 11, run mid 0, step mid 10",
            "6: over mid 10, end mid 8, run low 0, end low 3",
        ])

    def test_lent_rank_counts_for_slices(self):
        # From 1 on low has the rank of other, so that its slice counts.
        rows = [
            "slice 2", "lock a lent", "task low 1; lock a; work 5; unlock a", "task top 2; sleep 1; lock a; unlock a",
            "task other 2; sleep 2; work 1",
        ]
        self.runs(rows, [
            "0: run top 0, step top 8, run other 0, step other 12, run low 0, step low 4, step low 5",
            "1: wake top 8, stop low 0, run top 0, step top 9, run low 0",
            "2: wake other 12",
            "3: slice low 0, run other 0, step other 13",
            "4: over other 13, end other 11, run low 0",
            "6: over low 5, step low 6, go top 9, stop low 0, run top 0, step top 10, end top 7, run low 0, "
            "end low 3",
        ])

    def test_waiting_for_a_task_lends_nothing(self):
        rows = [
            "lock a lent", "task low 1; lock a; work 4; unlock a", "task mid 2; sleep 2; work 1",
            "task top 3; sleep 1; wait low; say 3",
        ]
        self.runs(rows, [
            "0: run top 0, step top 11, run mid 0, step mid 8, run low 0, step low 4, step low 5",
            "1: wake top 11, stop low 0, run top 0, step top 12, run low 0",
            "2: wake mid 8, stop low 0, run mid 0, step mid 9",
            "3: over mid 9, end mid 7, run low 0",
            "5: over low 5, step low 6, end low 3, go top 12, run top 0, step top 13, end top 10",
        ])

    def test_waiting_for_room_lends_nothing(self):
        rows = [
            "queue pipe 1", "lock a lent", "task low 1; lock a; work 4; take pipe x; unlock a",
            "task mid 2; sleep 2; work 1", "task top 3; sleep 1; put pipe 1; put pipe 2",
        ]
        self.runs(rows, [
            "0: run top 0, step top 13, run mid 0, step mid 10, run low 0, step low 5, step low 6",
            "1: wake top 13, stop low 0, run top 0, step top 14, step top 15, run low 0",
            "2: wake mid 10, stop low 0, run mid 0, step mid 11",
            "3: over mid 11, end mid 9, run low 0",
            "5: over low 6, step low 7, go top 15, stop low 0, run top 0, end top 12, run low 0, step low 8, "
            "end low 4",
        ])

    def test_waiting_for_a_value_lends_nothing(self):
        rows = [
            "queue pipe 1", "lock a lent", "task low 1; lock a; work 4; put pipe 1; unlock a",
            "task mid 2; sleep 2; work 1", "task top 3; sleep 1; take pipe x",
        ]
        self.runs(rows, [
            "0: run top 0, step top 13, run mid 0, step mid 10, run low 0, step low 5, step low 6",
            "1: wake top 13, stop low 0, run top 0, step top 14, run low 0",
            "2: wake mid 10, stop low 0, run mid 0, step mid 11",
            "3: over mid 11, end mid 9, run low 0",
            "5: over low 6, step low 7, go top 14, stop low 0, run top 0, end top 12, run low 0, step low 8, "
            "end low 4",
        ])

    def test_lock_goes_to_the_greatest_rank(self):
        # Not to low, which began to wait first.
        rows = [
            "lock a", "task one 2; lock a; sleep 3; unlock a", "task low 1; lock a; unlock a",
            "task top 3; sleep 1; lock a; unlock a",
        ]
        self.runs(rows, [
            "0: run top 0, step top 11, run one 0, step one 4, step one 5, run low 0, step low 8",
            "1: wake top 11, run top 0, step top 12",
            "3: wake one 5, run one 0, step one 6, go top 12, stop one 0, run top 0, step top 13, go low 8, "
            "end top 10, run one 0, end one 3, run low 0, step low 9, end low 7",
        ])

    def test_lock_goes_to_who_waited_first(self):
        # tri began to wait ahead of two.
        rows = [
            "cores 2", "lock a", "task one 2; lock a; work 3; unlock a",
            "task two 1; sleep 2; lock a; work 1; unlock a", "task tri 1; sleep 1; lock a; work 1; unlock a",
        ]
        self.runs(rows, [
            "0: run one 0, run two 1, step one 4, step one 5, step two 8, run tri 1, step tri 13",
            "1: wake tri 13, run tri 1, step tri 14",
            "2: wake two 8, run two 1, step two 9",
            "3: over one 5, step one 6, go tri 14, run tri 1, end one 3, step tri 15",
            "4: over tri 15, step tri 16, go two 9, run two 0, step two 10, end tri 12",
            "5: over two 10, step two 11, end two 7",
        ])

    def test_lock_goes_by_the_ranks_of_then(self):
        # mid began to wait ahead of low, to which top lends its rank over b at 3.
        rows = [
            "cores 2", "lock a", "lock b lent", "task one 1; lock a; work 4; unlock a",
            "task low 1; lock b; sleep 2; lock a; work 1; unlock b; unlock a",
            "task mid 2; sleep 1; lock a; work 1; unlock a", "task top 4; sleep 3; lock b; work 1; unlock b",
        ]
        self.runs(rows, [
            "0: run top 0, run mid 1, step top 21, run one 0, step one 5, step one 6, step mid 16, run low 1, "
            "step low 9, step low 10",
            "1: wake mid 16, run mid 1, step mid 17",
            "2: wake low 10, run low 1, step low 11",
            "3: wake top 21, run top 1, step top 22",
            "4: over one 6, step one 7, go low 11, run low 1, end one 4, step low 12",
            "5: over low 12, step low 13, go top 22, run top 0, step top 23, step low 14, go mid 17, "
            "stop low 1, run mid 1, step mid 18",
            "6: over top 23, over mid 18, step top 24, end top 20, run low 0, end low 8, step mid 19, end mid 15",
        ])

    def test_who_waited_longer_is_the_one_that_began_first(self):
        # two waits since 1, though its ticket is greater than that of tri.
        rows = [
            "cores 3", "lock a", "task one 1; lock a; work 3; unlock a", "task two 1; sleep 1; lock a; unlock a",
            "task tri 1; work 2; lock a; unlock a",
        ]
        self.runs(rows, [
            "0: run one 0, run two 1, run tri 2, step one 4, step one 5, step two 8, step tri 12",
            "1: wake two 8, run two 1, step two 9",
            "2: over tri 12, step tri 13",
            "3: over one 5, step one 6, go two 9, run two 1, end one 3, step two 10, go tri 13, run tri 0, "
            "step tri 14, end tri 11, end two 7",
        ])

    def test_locks_in_a_circle(self):
        # Each waits for the other one, for ever.
        rows = [
            "lock a lent", "lock b lent", "task one 1; lock a; sleep 1; lock b",
            "task two 2; lock b; sleep 1; lock a", "task tri 1; sleep 2; work 1",
        ]
        self.runs(rows, [
            "0: run two 0, step two 9, step two 10, run one 0, step one 5, step one 6, run tri 0, step tri 13",
            "1: wake one 6, wake two 10, run two 0, step two 11, run one 0, step one 7",
            "2: wake tri 13, run tri 0, step tri 14",
            "3: over tri 14, end tri 12",
        ], "stuck")
