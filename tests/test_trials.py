"""Section 11: trial and tried."""

import itertools
import random

from tests.benching import LINES, TEXT, BenchCase, depths, drawn_edit, is_program
from tests.drawn import drawn_program
from tests.telling import question
from whatspeed.benches import Bench
from whatspeed.errors import BadProgram, NothingToRedo, NothingToUndo, SpeedError


class Stop(Exception):
    """An error that is none of the package."""


def said(number):
    """TEXT with another output."""
    return "\n".join([*LINES[:7], f"say {number}"])


def say(bench, number):
    """The edit that makes such a text."""
    bench.edit(7, 1, f"say {number}")


def edited():
    """A bench with three edits, the last one of which was taken back."""
    bench = Bench(TEXT)
    for number in (2, 3, 4):
        say(bench, number)
    bench.undo()
    return bench


AHEAD = (2, [TEXT, said(2), said(3), said(4)])


class TrialCase(BenchCase):

    def stays_so(self, bench, known):
        """Checks the texts that can be undone and made again, and that each of them is that of a new bench."""
        self.assertEqual(depths(bench), known)
        back, texts = known
        self.stands(bench, texts[back])
        for at in reversed(range(back)):
            bench.undo()
            self.stands(bench, texts[at])
        self.stays(bench, NothingToUndo, bench.undo)
        for text in texts[1:]:
            bench.redo()
            self.stands(bench, text)
        self.stays(bench, NothingToRedo, bench.redo)
        for _ in texts[back + 1:]:
            bench.undo()
        self.assertEqual(depths(bench), known)


def do_nothing(bench):
    pass


def edit_once(bench):
    say(bench, 5)


def edit_and_undo(bench):
    say(bench, 5)
    say(bench, 6)
    bench.undo()


def redo_once(bench):
    bench.redo()


def undo_ahead(bench):
    bench.undo()


def undo_all(bench):
    bench.undo()
    bench.undo()


def undo_and_edit(bench):
    bench.undo()
    say(bench, 5)


def redo_and_edit(bench):
    bench.redo()
    say(bench, 5)
    say(bench, 6)
    bench.undo()


def change_nothing(bench):
    bench.edit(0, 0, None)


# What is done in a block, and what can be undone and made again behind it, if it is kept.
BLOCKS = [
    (do_nothing, AHEAD), (edit_once, (3, [*AHEAD[1][:3], said(5)])),
    (edit_and_undo, (3, [*AHEAD[1][:3], said(5), said(6)])), (redo_once, (3, AHEAD[1])),
    (undo_ahead, (1, AHEAD[1])), (undo_all, (0, AHEAD[1])), (undo_and_edit, (2, [*AHEAD[1][:2], said(5)])),
    (redo_and_edit, (4, [*AHEAD[1], said(5), said(6)])), (change_nothing, (3, [*AHEAD[1][:3], said(3)])),
]


class TrialTest(TrialCase):

    def test_not_kept(self):
        for action, behind in BLOCKS:
            bench = edited()
            with bench.trial():
                action(bench)
                self.stays_so(bench, behind)
            self.stays_so(bench, AHEAD)

    def test_kept(self):
        for action, behind in BLOCKS:
            bench, other = edited(), edited()
            with bench.trial() as trial:
                action(bench)
                self.assertIsNone(trial.keep())
                self.stays_so(bench, behind)
            self.stays_so(bench, behind)
            # It stands as if done without a trial.
            action(other)
            self.stays_so(other, behind)

    def test_kept_ahead_of_what_is_done(self):
        for action, behind in BLOCKS:
            bench = edited()
            with bench.trial() as trial:
                trial.keep()
                action(bench)
            self.stays_so(bench, behind)

    def test_kept_twice(self):
        bench = edited()
        with bench.trial() as trial:
            trial.keep()
            edit_once(bench)
            trial.keep()
        self.stays_so(bench, BLOCKS[1][1])

    def test_a_bench_without_edits(self):
        for is_kept in (False, True):
            bench = Bench(TEXT)
            with bench.trial() as trial:
                self.stays(bench, NothingToUndo, bench.undo)
                say(bench, 2)
                bench.undo()
                self.stays(bench, NothingToUndo, bench.undo)
                bench.redo()
                if is_kept:
                    trial.keep()
            self.stays_so(bench, (1, [TEXT, said(2)]) if is_kept else (0, [TEXT]))

    def test_an_error_that_leaves_the_block(self):
        for action, _ in BLOCKS:
            for error in (Stop, BadProgram, KeyboardInterrupt):
                for is_kept in (False, True):
                    bench = edited()
                    thrown = error(5)
                    with self.assertRaises(error) as caught:
                        with bench.trial() as trial:
                            if is_kept:
                                trial.keep()
                            action(bench)
                            raise thrown
                    self.assertIs(caught.exception, thrown)
                    self.stays_so(bench, AHEAD)

    def test_an_error_of_the_bench_that_leaves_the_block(self):
        for is_kept in (False, True):
            bench = edited()
            with self.assertRaises(BadProgram) as caught:
                with bench.trial() as trial:
                    say(bench, 5)
                    if is_kept:
                        trial.keep()
                    say(bench, 1000)
            self.assertEqual(caught.exception.line, 7)
            self.stays_so(bench, AHEAD)

    def test_an_error_that_stays_in_the_block(self):
        for is_kept in (False, True):
            bench = edited()
            with bench.trial() as trial:
                say(bench, 5)
                try:
                    say(bench, 1000)
                except SpeedError:
                    say(bench, 6)
                if is_kept:
                    trial.keep()
            self.stays_so(bench, (4, [*AHEAD[1][:3], said(5), said(6)]) if is_kept else AHEAD)

    def test_other_ways_out_of_the_block(self):
        def left(bench, is_kept):
            for _ in range(3):
                with bench.trial() as trial:
                    say(bench, 5)
                    if is_kept:
                        trial.keep()
                    break
            with bench.trial() as trial:
                say(bench, 6)
                if is_kept:
                    trial.keep()
                return bench.text

        for is_kept in (False, True):
            bench = edited()
            self.assertEqual(left(bench, is_kept), said(6))
            self.stays_so(bench, (4, [*AHEAD[1][:3], said(5), said(6)]) if is_kept else AHEAD)

    def test_keep_outside_of_the_block(self):
        bench = edited()
        with bench.trial() as trial:
            say(bench, 5)
        trial.keep()
        self.stays_so(bench, AHEAD)
        say(bench, 6)
        trial.keep()
        self.stays_so(bench, (3, [*AHEAD[1][:3], said(6)]))
        early = bench.trial()
        early.keep()
        with early:
            say(bench, 7)
        self.stays_so(bench, (3, [*AHEAD[1][:3], said(6)]))

    def test_edits_between_the_trial_and_its_block(self):
        bench = edited()
        early = bench.trial()
        say(bench, 5)
        with early:
            say(bench, 6)
        self.stays_so(bench, (3, [*AHEAD[1][:3], said(5)]))

    def test_one_behind_the_other(self):
        bench = edited()
        for number, is_kept in [(5, True), (6, False), (7, True), (8, False), (9, True)]:
            with bench.trial() as trial:
                say(bench, number)
                if is_kept:
                    trial.keep()
        self.stays_so(bench, (5, [*AHEAD[1][:3], said(5), said(7), said(9)]))

    def test_other_benches(self):
        bench, other = edited(), edited()
        with bench.trial():
            say(bench, 5)
            say(other, 6)
        self.stays_so(bench, AHEAD)
        self.stays_so(other, (3, [*AHEAD[1][:3], said(6)]))

    def test_what_was_told_in_the_block_stays(self):
        bench = edited()
        with bench.trial():
            bench.edit(5, 1, "work 9")
            former, plain, cells = bench.program, bench.run(), bench.curve(question(dig=(0, 2)))
            text, moments, rows = former.text, plain.moments, cells.rows()
        self.assertEqual([former.text, plain.program.text, cells.program.text], [text] * 3)
        self.assertEqual([plain.moments, cells.rows()], [moments, rows])


class NestedTest(TrialCase):

    def test_each_combination(self):
        # An edit ahead of, in and behind a block in a block, each of both kept or not.
        for outer_kept, inner_kept in itertools.product((False, True), repeat=2):
            bench = edited()
            with bench.trial() as outer:
                say(bench, 5)
                with bench.trial() as inner:
                    bench.undo()
                    say(bench, 6)
                    say(bench, 7)
                    if inner_kept:
                        inner.keep()
                inside = (4, [*AHEAD[1][:3], said(6), said(7)]) if inner_kept else (3, [*AHEAD[1][:3], said(5)])
                self.stays_so(bench, inside)
                say(bench, 8)
                if outer_kept:
                    outer.keep()
            back, texts = inside
            self.stays_so(bench, (back + 1, [*texts, said(8)]) if outer_kept else AHEAD)

    def test_each_combination_of_three(self):
        for kept in itertools.product((False, True), repeat=3):
            bench = edited()
            with bench.trial() as one:
                say(bench, 5)
                with bench.trial() as two:
                    bench.undo()
                    bench.undo()
                    say(bench, 6)
                    with bench.trial() as tri:
                        say(bench, 7)
                        bench.undo()
                        if kept[2]:
                            tri.keep()
                    if kept[1]:
                        two.keep()
                if kept[0]:
                    one.keep()
            texts = AHEAD[1]
            if not kept[0]:
                known = AHEAD
            elif not kept[1]:
                known = (3, [*texts[:3], said(5)])
            elif not kept[2]:
                known = (2, [*texts[:2], said(6)])
            else:
                known = (2, [*texts[:2], said(6), said(7)])
            self.stays_so(bench, known)

    def test_the_outer_one_is_kept_within_the_inner_block(self):
        for inner_kept in (False, True):
            bench = edited()
            with bench.trial() as outer:
                say(bench, 5)
                with bench.trial() as inner:
                    say(bench, 6)
                    outer.keep()
                    if inner_kept:
                        inner.keep()
            texts = [*AHEAD[1][:3], said(5)]
            self.stays_so(bench, (4, [*texts, said(6)]) if inner_kept else (3, texts))

    def test_errors_that_leave_one_block_or_both(self):
        for outer_kept, inner_kept in itertools.product((False, True), repeat=2):
            bench = edited()
            with bench.trial() as outer:
                say(bench, 5)
                if outer_kept:
                    outer.keep()
                with self.assertRaises(Stop):
                    with bench.trial() as inner:
                        say(bench, 6)
                        if inner_kept:
                            inner.keep()
                        raise Stop()
                self.stays_so(bench, (3, [*AHEAD[1][:3], said(5)]))
            self.stays_so(bench, (3, [*AHEAD[1][:3], said(5)]) if outer_kept else AHEAD)
            with self.assertRaises(Stop):
                with bench.trial() as outer, bench.trial() as inner:
                    undo_and_edit(bench)
                    if inner_kept:
                        inner.keep()
                    if outer_kept:
                        outer.keep()
                    raise Stop()
            self.stays_so(bench, (3, [*AHEAD[1][:3], said(5)]) if outer_kept else AHEAD)

    def test_drawn_blocks(self):
        for at in range(60):
            dice = random.Random(at)
            text = drawn_program(at).text
            bench, model = Bench(text), Model(text)
            for _ in range(6):
                self.block(dice, bench, model, 0)
                self.assertEqual(depths(bench), model.known())
            self.stays_so(bench, model.known())

    def block(self, dice, bench, model, depth):
        """The same edits and blocks for a bench and for lists of texts."""
        for _ in range(dice.randint(1, 4)):
            kind = dice.choice(["edit", "edit", "undo", "redo", "trial", "trial"])
            if kind == "edit":
                args = drawn_edit(dice, bench.text)
                if model.edit(*args):
                    bench.edit(*args)
                else:
                    self.stays(bench, refusal(bench, args), bench.edit, *args)
            elif kind == "undo" and model.undo():
                bench.undo()
            elif kind == "redo" and model.redo():
                bench.redo()
            elif kind == "trial" and depth < 3:
                known = model.known()
                is_kept, is_thrown = dice.random() < 0.5, dice.random() < 0.2
                try:
                    with bench.trial() as trial:
                        if is_kept:
                            trial.keep()
                        self.block(dice, bench, model, depth + 1)
                        if is_thrown:
                            raise Stop()
                except Stop:
                    pass
                if is_thrown or not is_kept:
                    model.back, model.texts = known
            self.assertEqual(depths(bench), model.known())


def refusal(bench, args):
    """The error that an edit raises."""
    try:
        bench.edit(*args)
    except SpeedError as error:
        return type(error)
    raise AssertionError(args)


class Model:
    """What can be undone and made again, as plain texts."""

    def __init__(self, text):
        self.back, self.texts = 0, [text]

    def known(self):
        return self.back, list(self.texts)

    def edit(self, line, count, text):
        lines = self.texts[self.back].split("\n")
        lines[line:line + count] = [] if text is None else text.split("\n")
        if not is_program("\n".join(lines)):
            return False
        self.texts = [*self.texts[:self.back + 1], "\n".join(lines)]
        self.back += 1
        return True

    def undo(self):
        if self.back == 0:
            return False
        self.back -= 1
        return True

    def redo(self):
        if self.back == len(self.texts) - 1:
            return False
        self.back += 1
        return True


class TriedTest(TrialCase):

    def test_not_kept(self):
        for action, behind in BLOCKS:
            for more in ({}, {"keep": False}):
                bench = edited()

                def looked(one, action=action, behind=behind):
                    action(one)
                    self.stays_so(one, behind)

                bench.tried(looked, **more)
                self.stays_so(bench, AHEAD)

    def test_kept(self):
        for action, behind in BLOCKS:
            bench = edited()
            bench.tried(action, keep=True)
            self.stays_so(bench, behind)

    def test_what_the_action_is_handed(self):
        for keep in (False, True):
            bench = edited()
            handed = []
            bench.tried(lambda *args, **more: handed.append((args, more)), keep=keep)
            self.assertEqual(len(handed), 1)
            self.assertEqual(handed[0], ((bench,), {}))
            self.assertIs(handed[0][0][0], bench)

    def test_what_it_returns(self):
        bench = edited()
        for value in (None, 0, False, "", [], {"a": [1]}, (1, 2), bench):
            for keep in (False, True):
                self.assertIs(bench.tried(lambda one, value=value: value, keep=keep), value)
        self.assertEqual(bench.tried(lambda one: one.text), said(3))

        def longer(one):
            say(one, 5)
            return one.text, one.run().outputs[0][2]

        self.assertEqual(bench.tried(longer), (said(5), 5))
        self.stays_so(bench, AHEAD)

    def test_errors_go_on(self):
        for keep in (False, True):
            bench = edited()
            thrown = Stop()

            def action(one, thrown=thrown):
                redo_and_edit(one)
                raise thrown

            with self.assertRaises(Stop) as caught:
                bench.tried(action, keep=keep)
            self.assertIs(caught.exception, thrown)
            self.stays_so(bench, AHEAD)
            with self.assertRaises(BadProgram):
                bench.tried(lambda one: (say(one, 5), say(one, 1000)), keep=keep)
            self.stays_so(bench, AHEAD)

    def test_within_one_another(self):
        for outer_kept, inner_kept in itertools.product((False, True), repeat=2):
            bench = edited()

            def action(one, inner_kept=inner_kept):
                say(one, 5)
                one.tried(edit_and_undo, keep=inner_kept)
                say(one, 7)

            bench.tried(action, keep=outer_kept)
            inside = [said(5), said(5), said(7)] if inner_kept else [said(5), said(7)]
            texts = [*AHEAD[1][:3], *inside]
            self.stays_so(bench, (len(texts) - 1, texts) if outer_kept else AHEAD)

    def test_within_a_block(self):
        bench = edited()
        with bench.trial() as trial:
            bench.tried(edit_once, keep=True)
            bench.tried(undo_all)
            trial.keep()
        self.stays_so(bench, BLOCKS[1][1])
        with bench.trial():
            bench.tried(undo_all, keep=True)
        self.stays_so(bench, BLOCKS[1][1])

    def test_names_of_arguments(self):
        bench = edited()
        self.assertEqual(bench.tried(keep=True, action=lambda one: 5), 5)
        with self.assertRaises(TypeError):
            bench.tried(do_nothing, True)
        self.stays_so(bench, AHEAD)
