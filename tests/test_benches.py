"""Section 11: undo, redo, run and curve of benches."""

import random

from tests.benching import LINES, TEXT, BenchCase, depths, drawn_edit, is_program, told_error
from tests.drawn import drawn_program
from tests.telling import MANY, pieces_of, program, question, speeds, told
from tests.test_questions import wrong_questions
from tests.test_speeds import wrong_speeds
from whatspeed.benches import Bench
from whatspeed.curves import curve
from whatspeed.errors import BadQuestion, BadSpeeds, NothingToRedo, NothingToUndo, SpeedError, TooMany
from whatspeed.programs import Program
from whatspeed.runs import run


class UndoTest(BenchCase):

    def texts(self, many):
        """A bench with so many edits, and the texts from the first one on."""
        bench = Bench(TEXT)
        texts = [TEXT]
        for at in range(many):
            bench.edit(7, 1, f"say {at + 2}")
            texts.append(bench.text)
        return bench, texts

    def test_long_rows(self):
        bench, texts = self.texts(30)
        for text in texts[-2::-1]:
            self.assertIsNone(bench.undo())
            self.stands(bench, text)
        self.stays(bench, NothingToUndo, bench.undo)
        for text in texts[1:]:
            self.assertIsNone(bench.redo())
            self.stands(bench, text)
        self.stays(bench, NothingToRedo, bench.redo)

    def test_to_and_fro(self):
        bench, texts = self.texts(5)
        at = 5
        for step in (-1, -1, 1, -1, -1, 1, 1, -1, -1, -1, 1, -1, 1, 1, 1, 1, -1, 1):
            bench.undo() if step < 0 else bench.redo()
            at += step
            self.assertEqual(depths(bench), (at, texts))
            self.stands(bench, texts[at])

    def test_nothing_to_undo_and_to_redo(self):
        bench = Bench(TEXT)
        self.stays(bench, NothingToUndo, bench.undo)
        self.stays(bench, NothingToRedo, bench.redo)
        bench.edit(7, 1, "say 2")
        self.stays(bench, NothingToRedo, bench.redo)
        bench.undo()
        self.stays(bench, NothingToUndo, bench.undo)
        bench.redo()
        self.stays(bench, NothingToRedo, bench.redo)

    def test_redo_behind_an_edit(self):
        bench, texts = self.texts(3)
        bench.undo(), bench.undo()
        bench.edit(7, 1, "say 9")
        self.stays(bench, NothingToRedo, bench.redo)
        last = bench.text
        self.assertEqual(depths(bench), (2, [*texts[:2], last]))
        bench.undo()
        self.stands(bench, texts[1])
        bench.redo()
        self.stands(bench, last)

    def test_an_edit_that_changes_nothing(self):
        bench, texts = self.texts(2)
        bench.undo()
        bench.edit(0, 0, None)
        self.stays(bench, NothingToRedo, bench.redo)
        self.assertEqual(depths(bench), (2, [*texts[:2], texts[1]]))
        bench.undo()
        self.stands(bench, texts[1])
        bench.undo()
        self.stands(bench, TEXT)

    def test_what_was_told_stays(self):
        bench = Bench(TEXT)
        former, cells, plain = bench.program, bench.curve(question(dig=(0, 2))), bench.run()
        rows, moments = cells.rows(), told(plain)
        bench.edit(5, 1, "work 9")
        self.assertEqual([former.text, plain.program.text, cells.program.text], [TEXT] * 3)
        later = bench.program
        bench.undo()
        self.assertEqual(later.text, "\n".join([*LINES[:5], "work 9", *LINES[6:]]))
        bench.edit(0, 8, "cores 1\nslice 0\ntask one 1\nsay 1")
        self.assertEqual([former.text, former.parts], [TEXT, ("dig", "haul")])
        self.assertEqual([cells.rows(), told(plain)], [rows, moments])
        self.assertEqual(run(former).rows(), plain.rows())

    def test_parts_come_and_go(self):
        bench = Bench(TEXT)
        asked = question(haul=(0, 1))
        bench.edit(3, 4, "task one 1\nwork 4 dig")
        error = self.stays(bench, BadQuestion, bench.curve, asked)
        self.assertIs(error.value, asked)
        bench.undo()
        self.assertEqual(pieces_of(bench.curve(asked)), ["[0 0] done 4", "(0 1] done 4+6s"])
        bench.redo()
        self.stays(bench, BadSpeeds, bench.run, speeds(haul=1))

    def test_drawn_edits(self):
        for at in range(25):
            dice = random.Random(at)
            text = drawn_program(at).text
            bench, past, now, future = Bench(text), [], text, []
            for _ in range(30):
                kind = dice.choice(["undo", "redo", "edit", "edit"])
                if kind == "edit":
                    args = drawn_edit(dice, now)
                    lines = now.split("\n")
                    lines[args[0]:args[0] + args[1]] = [] if args[2] is None else args[2].split("\n")
                    new = "\n".join(lines)
                    self.same_edit(bench, args, new)
                    if is_program(new):
                        past, now, future = [*past, now], new, []
                elif kind == "undo" and past:
                    bench.undo()
                    past, now, future = past[:-1], past[-1], [now, *future]
                elif kind == "redo" and future:
                    bench.redo()
                    past, now, future = [*past, now], future[0], future[1:]
                self.assertEqual(depths(bench), (len(past), [*past, now, *future]))
            self.stands(bench, now)

    def same_edit(self, bench, args, new):
        """Makes an edit, which raises as a new bench of the whole text does."""
        try:
            Bench(new)
        except SpeedError as expected:
            error = self.stays(bench, type(expected), bench.edit, *args)
            self.assertEqual(told_error(error), told_error(expected))
        else:
            bench.edit(*args)


class RunAndCurveTest(BenchCase):

    def test_run(self):
        bench = Bench(TEXT)
        self.assertEqual(bench.run().rows(), run(Program(TEXT)).rows())
        for given in (speeds(dig=0), speeds(dig=2, haul="1/2"), ()):
            for one in (bench.run(given), bench.run(speeds=given)):
                self.assertEqual(one.rows(), run(Program(TEXT), given).rows())
                self.assertEqual(one.program, bench.program)

    def test_curve(self):
        bench = Bench(TEXT)
        for asked in ((), question(dig=(0, 2)), question(dig=(1, 0), haul=("1/2", 1))):
            for one in (bench.curve(asked), bench.curve(question=asked)):
                self.assertEqual(one.rows(), curve(Program(TEXT), asked).rows())
                self.assertEqual([one.question, one.program], [asked, bench.program])

    def test_no_speeds_and_no_questions(self):
        bench = Bench(TEXT)
        for value in wrong_speeds():
            # This program has no part called idle.
            self.assertIs(self.stays(bench, BadSpeeds, bench.run, value).value, value)
        for value in wrong_questions():
            self.assertIs(self.stays(bench, BadQuestion, bench.curve, value).value, value)

    def test_too_many(self):
        bench = Bench(program(*MANY).text)
        self.stays(bench, TooMany, bench.curve, question(dig=(0, 9)))
        self.stays(bench, BadQuestion, bench.curve, question(dig=(0, 10)))
