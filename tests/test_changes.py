"""Section 11: change."""

import random

from tests.benching import LINES, TEXT, BenchCase, drawn_edit
from tests.drawn import drawn_program
from tests.telling import DOOR, MANY, fraction, number, program, question, shown_all
from tests.test_questions import wrong_questions
from whatspeed.asking import slower, unlike
from whatspeed.benches import Bench
from whatspeed.curves import curve
from whatspeed.errors import BadQuestion, NothingToUndo, SpeedError, TooMany
from whatspeed.programs import Program
from whatspeed.runs import run


class ChangeTest(BenchCase):

    def changed(self, bench, former, asked, is_slower, is_unlike):
        """Checks what a change tells, beside runs of both programs."""
        found = bench.change(asked)
        self.assertEqual([type(found), type(found[0]), type(found[1])], [tuple] * 3)
        self.assertEqual([shown_all(found[0]), shown_all(found[1])], [is_slower, is_unlike])
        one, other = curve(Program(former), asked), curve(bench.program, asked)
        self.assertEqual(found, (slower(one, other), unlike(one, other)))
        for top in range(49):
            self.same_at(found, Program(former), bench.program, one.speeds(number(f"{top}/48")), number(f"{top}/48"))

    def same_at(self, found, former, present, given, s):
        one, other = run(former, given), run(present, given)
        both = one.outcome == other.outcome == "done"
        self.assertEqual(any(s in stretch for stretch in found[0]), both and fraction(one.time) < fraction(other.time))
        results = [(each.outcome, [rest for _, *rest in each.outputs]) for each in (one, other)]
        self.assertEqual(any(s in stretch for stretch in found[1]), results[0] != results[1])

    def test_slower_and_unlike(self):
        bench = Bench(TEXT)
        bench.edit(5, 1, "work 6")
        self.changed(bench, TEXT, question(dig=(0, 2)), "[0 3/4)", "")
        self.changed(bench, TEXT, question(dig=(2, 0)), "(1/4 1]", "")
        self.changed(bench, TEXT, (), "[0 1]", "")
        bench.edit(7, 1, "say 2")
        former = "\n".join([*LINES[:5], "work 6", *LINES[6:]])
        self.changed(bench, former, question(haul=(0, 2)), "", "[0 1]")
        former = bench.text
        bench.edit(7, 1, "x = 2")
        self.changed(bench, former, (), "", "[0 1]")

    def test_nothing_is_changed(self):
        bench = Bench(TEXT)
        bench.edit(0, 0, None)
        self.changed(bench, TEXT, question(dig=(0, 2)), "", "")

    def test_other_outcomes(self):
        bench = Bench(program(*DOOR).text)
        former = bench.text
        bench.edit(8, 1, None)
        # high waits for the door for ever where low has it first.
        self.changed(bench, former, question(fetch=(0, 2)), "", "[0 5/8)")

    def test_behind_undo_and_redo(self):
        bench = Bench(TEXT)
        bench.edit(5, 1, "work 6")
        first = bench.text
        bench.edit(5, 1, "work 1")
        asked = question(dig=(0, 2))
        self.changed(bench, first, asked, "", "")
        bench.undo()
        self.changed(bench, TEXT, asked, "[0 3/4)", "")
        bench.undo()
        self.stays(bench, NothingToUndo, bench.change, asked)
        bench.redo()
        self.changed(bench, TEXT, asked, "[0 3/4)", "")
        bench.redo()
        self.changed(bench, first, asked, "", "")
        bench.undo()
        bench.edit(5, 1, "work 9")
        self.changed(bench, first, asked, "[0 1]", "")

    def test_within_a_trial(self):
        bench = Bench(TEXT)
        bench.edit(5, 1, "work 6")
        first, asked = bench.text, question(dig=(0, 2))
        with bench.trial():
            # Without an edit in the block it is the one ahead of it.
            self.changed(bench, TEXT, asked, "[0 3/4)", "")
            bench.edit(5, 1, "work 9")
            self.changed(bench, first, asked, "[0 1]", "")
            bench.undo()
            self.changed(bench, TEXT, asked, "[0 3/4)", "")
            bench.undo()
            self.stays(bench, NothingToUndo, bench.change, asked)
        self.changed(bench, TEXT, asked, "[0 3/4)", "")
        with bench.trial() as trial:
            bench.edit(5, 1, "work 9")
            trial.keep()
        self.changed(bench, first, asked, "[0 1]", "")

    def test_without_an_edit(self):
        bench = Bench(TEXT)
        for asked in ((), question(dig=(0, 2)), None, [], 5, question(dig=(0, 10)), question(door=(0, 1))):
            self.stays(bench, NothingToUndo, bench.change, asked)
        self.stays(bench, NothingToUndo, bench.change, question=None)
        with bench.trial():
            self.stays(bench, NothingToUndo, bench.change, ())

    def test_no_questions(self):
        bench = Bench(TEXT)
        bench.edit(5, 1, "work 6")
        for value in wrong_questions():
            self.assertIs(self.stays(bench, BadQuestion, bench.change, value).value, value)
            self.stays(bench, BadQuestion, bench.change, question=value)

    def test_a_part_of_one_of_both(self):
        bench = Bench(TEXT)
        asked = question(haul=(0, 1))
        bench.edit(3, 4, "task one 1\nwork 4 dig")
        self.assertIs(self.stays(bench, BadQuestion, bench.change, asked).value, asked)
        bench.change(question(dig=(0, 1)))
        bench.edit(3, 0, "part haul")
        self.assertIs(self.stays(bench, BadQuestion, bench.change, asked).value, asked)
        bench.edit(0, 0, None)
        self.changed(bench, bench.text, asked, "", "")

    def test_too_many(self):
        many = program(*MANY).text
        few = "cores 1\nslice 0\npart dig\ntask one 1\nsay 1"
        asked = question(dig=(0, 9))
        bench = Bench(few)
        bench.edit(0, 5, many)
        self.stays(bench, TooMany, bench.change, asked)
        bench.edit(0, len(many.split("\n")), few)
        self.stays(bench, TooMany, bench.change, asked)
        bench.edit(0, 0, None)
        self.changed(bench, few, asked, "", "")

    def test_a_wrong_question_is_told_ahead_of_too_many(self):
        many = program(*MANY).text
        none = "cores 1\nslice 0\ntask one 1\nsay 1"
        asked = question(dig=(0, 9))
        bench = Bench(none)
        bench.edit(0, 4, many)
        self.assertIs(self.stays(bench, BadQuestion, bench.change, asked).value, asked)
        bench.edit(0, len(many.split("\n")), none)
        self.assertIs(self.stays(bench, BadQuestion, bench.change, asked).value, asked)

    def test_drawn_changes(self):
        differ = 0
        for at in range(60):
            dice = random.Random(at)
            bench = Bench(drawn_program(at).text)
            former = bench.text
            while bench.text == former:
                try:
                    bench.edit(*drawn_edit(dice, former))
                except SpeedError:
                    pass
            asked = question(dig=(0, 2), haul=(1, "1/2"))
            try:
                found = bench.change(asked)
            except SpeedError as error:
                self.assertIn(type(error), (TooMany, BadQuestion))
                continue
            differ += found != ((), ())
            one = curve(Program(former), asked)
            other = curve(bench.program, asked)
            borders = sorted({fraction(s) for each in (one, other) for s in each.borders()})
            for s in borders[:12] + [(low + high) / 2 for low, high in zip(borders, borders[1:])][:12]:
                self.same_at(found, Program(former), bench.program, one.speeds(number(s)), number(s))
        self.assertGreater(differ, 10)
