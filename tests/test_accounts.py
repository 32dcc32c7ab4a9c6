"""Section 7: the account of a task, and the chain of a run."""

from tests.helpers import any_values
from tests.telling import DOOR, RunCase, amount, fraction, links, program, speeds, spent
from whatspeed.errors import NoTask
from whatspeed.exact import Number
from whatspeed.runs import run


class AccountTest(RunCase):

    def accounts(self, rows, rest, **factors):
        """Checks the accounts of tasks, each written as a text."""
        one = run(program(*rows), speeds(**factors))
        for task, told in rest.items():
            self.assertEqual(", ".join(spent(one, task)), told, task)
        return one

    def test_kinds_of_values(self):
        account = run(program(*DOOR)).account("high")
        self.assertEqual([type(account), type(account[0])], [tuple, tuple])
        self.assertEqual([type(value) for value in account[0]], [str, str, Number])

    def test_all_together(self):
        self.accounts(DOOR, {"high": "lock door 2, sleep  5, work  2", "low": "ready  2, work  3, work fetch 4"})

    def test_work(self):
        self.accounts(["part dig", "part haul", "task one 1; work 2; work 3 dig; work 1 haul; work 4; work 5 dig"], {
            "one": "work  6, work dig 4, work haul 1",
        }, dig="1/2")

    def test_ready(self):
        self.accounts(["task one 1; work 3", "task two 1; work 2"], {"one": "work  3", "two": "ready  3, work  2"})

    def test_stopped_task_is_ready(self):
        self.accounts(["part dig", "task one 1; work 5 dig", "task top 2; sleep 2; work 3"], {
            "one": "ready  3, work dig 5", "top": "sleep  2, work  3",
        })

    def test_task_that_lost_its_core_by_its_slice_is_ready(self):
        self.accounts(["slice 2", "task one 1; work 3", "task two 1; work 3"], {
            "one": "ready  2, work  3", "two": "ready  3, work  3",
        })

    def test_lock(self):
        self.accounts(["cores 2", "lock a", "lock b", "task one 1; lock a; work 3; unlock a; lock b; work 4; unlock b",
                       "task two 1; sleep 1; lock a; unlock a; sleep 1; lock b"], {
            "two": "lock a 2, lock b 3, sleep  2",
        })

    def test_room(self):
        self.accounts(["queue pipe 1", "queue tube 1", "task one 1; put pipe 1; put pipe 2; put tube 1; put tube 2",
                       "task two 1; sleep 3; take pipe x; sleep 4; take tube x"], {
            "one": "room pipe 3, room tube 4", "two": "sleep  7",
        })

    def test_value(self):
        self.accounts(["queue pipe 1", "queue tube 1", "task one 1; take tube x; take pipe x",
                       "task two 1; sleep 3; put tube 1; sleep 4; put pipe 1"], {
            "one": "value pipe 4, value tube 3",
        })

    def test_task(self):
        self.accounts(["cores 3", "task one 1; wait two; wait tri", "task two 1; work 2", "task tri 1; work 5"], {
            "one": "task tri 3, task two 2",
        })

    def test_sleep(self):
        self.accounts(["task one 1; sleep 3; sleep 0; sleep 4"], {"one": "sleep  7"})

    def test_all_words_in_their_sequence(self):
        self.accounts([
            "cores 2", "lock a", "queue pipe 1", "queue tube 1", "part dig",
            "task one 2; lock a; sleep 1; unlock a; put pipe 1; sleep 1; take pipe x; sleep 1; put tube 3; work 9",
            "task all 1; lock a; put pipe 2; take tube x; sleep 2; wait one; work 1 dig; work 2",
            "task two 3; sleep 13; work 3", "task tri 3; sleep 13; work 4",
        ], {
            "all": "lock a 1, ready  3, room pipe 1, sleep  2, task one 7, value tube 1, work  2, work dig 1",
        })

    def test_nothing_that_took_no_time(self):
        one = self.accounts(["lock a", "task one 1; lock a; sleep 0; unlock a", "task two 1; lock a; work 2"], {
            "one": "", "two": "work  2",
        })
        self.assertEqual(one.account("one"), ())

    def test_run_of_one_moment(self):
        self.assertEqual(run(program("task one 1; say 1")).account("one"), ())

    def test_beside_an_idle_core(self):
        self.accounts(["cores 2", "part dig", "task two 2; work 1", "task one 1; work 3 dig"], {
            "one": "work dig 3", "two": "work  1",
        })

    def test_task_that_never_began(self):
        one = self.accounts(["task one 1; work 4", "task two 1 later; work 1"], {"one": "work  4"})
        self.assertEqual(one.account("two"), ())

    def test_from_the_beginning(self):
        self.accounts(["task one 1; work 4; start two; work 2", "task two 1 later; work 1"], {
            "two": "ready  2, work  1",
        })

    def test_to_the_end_of_the_task(self):
        self.accounts(["cores 2", "task one 1; work 4", "task two 1; work 1"], {"two": "work  1"})

    def test_to_the_end_of_the_run(self):
        rows = ["cores 2", "lock a", "task one 1; wait one", "task two 1; work 3; unlock a", "task tri 1; sleep 9"]
        self.accounts(rows, {"one": "task one 3", "two": "work  3", "tri": "sleep  3"})

    def test_no_task(self):
        one = run(program(*DOOR))
        for value in any_values() + ["door", "fetch", "High", "high ", "later", ("high",), ["high"]]:
            with self.subTest(value=value):
                self.refuses(NoTask, value, one.account, value)
        self.assertEqual(one.account(task="high"), one.account("high"))

    def test_lengths_add_up(self):
        one = run(program(*DOOR), speeds(fetch="3/2"))
        ends = [at for at, event in enumerate(one.events) if event[0] == "end"]
        self.assertEqual([fraction(one.time_of(at)) for at in ends], [7, 11])
        for task, time in [("high", 7), ("low", 11)]:
            self.assertEqual(sum(fraction(length) for _, _, length in one.account(task)), time)


class ChainTest(RunCase):

    def chains(self, rows, told, **factors):
        one = run(program(*rows), speeds(**factors))
        self.assertEqual(links(one), told)
        self.assertEqual(sum(fraction(length) for _, _, _, length in one.chain()), fraction(one.time))
        return one

    def test_kinds_of_values(self):
        chain = run(program(*DOOR)).chain()
        self.assertEqual([type(chain), type(chain[0])], [tuple, tuple])
        self.assertEqual([type(value) for value in chain[0]], [str, str, int, Number])

    def test_run_of_time_0(self):
        self.assertEqual(run(program("task one 1; say 1; sleep 0; work 0")).chain(), ())
        self.assertEqual(run(program("task one 1 later; say 1")).chain(), ())

    def test_sleeps_and_works(self):
        self.chains(["task one 1; sleep 3; work 4; sleep 5"], ["sleep one 5 5", "work one 4 4", "sleep one 3 3"])

    def test_links_of_several_tasks(self):
        self.chains(DOOR, ["work high 12 2", "work low 7 2", "sleep high 10 5"])

    def test_factors(self):
        self.chains(DOOR, ["work low 7 3", "work low 5 1", "work high 12 2", "sleep high 10 5"], fetch="3/2")
        self.chains(DOOR, ["work high 12 2", "work low 7 2/3", "sleep high 10 5"], fetch="2/3")

    def test_sleep_goes_ahead_of_a_work(self):
        self.chains(["cores 2", "task one 1; work 3", "task two 1; sleep 3"], ["sleep two 5 3"])

    def test_first_sleep_by_tasks(self):
        self.chains(["cores 2", "task one 1; work 1; sleep 3", "task two 2; sleep 4"], [
            "sleep one 4 3", "work one 3 1",
        ])

    def test_no_sleep_0(self):
        self.chains(["task one 1; work 2; sleep 0; sleep 0; work 1"], ["work one 6 1", "work one 3 2"])

    def test_first_work_by_cores(self):
        # two has core 0.
        self.chains(["cores 2", "task one 1; work 3", "task two 2; work 3"], ["work two 5 3"])

    def test_work_goes_ahead_of_a_slice(self):
        # At 2 the slices of both are over, and the work of one.
        self.chains(["cores 2", "slice 2", "task two 1; work 9", "task one 1; work 2", "task tri 1; work 1"], [
            "work two 3 7", "work one 5 2",
        ])

    def test_slice(self):
        self.chains(["slice 2", "task one 1; work 3", "task two 1; work 9"], [
            "work two 5 7", "work one 3 1", "slice two 5 2", "slice one 3 2",
        ])

    def test_slice_tells_the_line_of_the_work(self):
        # The slice began ahead of the work, in another one.
        self.chains(["slice 3", "task one 1; work 1; work 1; work 4", "task two 1; work 1"], [
            "work one 5 3", "work two 7 1", "slice one 5 3",
        ])

    def test_first_slice_by_cores(self):
        self.chains(["cores 2", "slice 2", "task one 1; work 3", "task two 2; sleep 9", "task tri 1; work 3",
                     "task four 1; work 1"], ["sleep two 5 9"])
        one = run(program("cores 2", "slice 2", "task one 1; work 3", "task tri 1; work 3", "task four 1; work 1"))
        self.assertEqual(links(one)[-1:], ["slice one 3 2"])

    def test_work_since_it_began(self):
        # The core was got at 2, the work began at 3.
        self.chains(["task one 1; sleep 2; work 1; work 4"], ["work one 5 4", "work one 4 1", "sleep one 3 2"])

    def test_work_since_the_core_was_got(self):
        # The work began at 0, and goes on from 5 on.
        self.chains(["task one 1; work 4", "task top 2; sleep 2; work 3"], [
            "work one 3 2", "work top 6 3", "sleep top 5 2",
        ])

    def test_work_that_got_its_core_in_the_same_moment_again(self):
        # top stops one at 2, and waits for the lock at once.
        self.chains(["lock a", "task one 1; lock a; work 4; unlock a", "task top 2; sleep 2; lock a"], [
            "work one 5 2", "sleep top 8 2",
        ])

    def test_run_that_ends_amid_a_moment(self):
        one = self.chains(["lock a", "task one 1; work 2; unlock a"], ["work one 4 2"])
        self.assertEqual(one.outcome, "fault")

    def test_slice_that_is_refused(self):
        one = run(program("slice 1", "part dig", "task one 1; work 99 dig", "task two 1; work 99 dig"), speeds(dig=2))
        self.assertEqual([one.outcome, amount(one.time)], ["long", "199"])
        self.assertEqual([links(one)[0], links(one)[1], len(links(one))], ["slice one 4 1", "slice two 6 1", 199])

    def test_moments_that_count_for_nothing(self):
        # The moments at 1 and 2 have no link.
        self.chains(["cores 3", "task one 1; work 1", "task two 1; sleep 2", "task tri 1; work 3"], ["work tri 7 3"])
