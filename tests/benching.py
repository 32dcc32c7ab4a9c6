"""What tests of benches need: checks beside new benches, what can be undone, and edits that are drawn."""

from tests.telling import CurveCase
from whatspeed.benches import Bench
from whatspeed.errors import NothingToRedo, NothingToUndo, SpeedError, TooMany
from whatspeed.exact import Number
from whatspeed.programs import Program

LINES = ["cores 1", "slice 0", "part dig", "part haul", "task one 1", "work 4 dig", "work 6 haul", "say 1"]
TEXT = "\n".join(LINES)


class BenchCase(CurveCase):

    maxDiff = None

    def stands(self, bench, text):
        """Checks that a bench is what a new bench of this text is."""
        new = Bench(text)
        self.assertEqual([bench.text, bench.program.text, new.text], [text] * 3)
        self.assertEqual(bench.program, Program(text))
        self.assertIs(type(bench.program), Program)
        self.assertEqual(bench.program.lines, tuple(text.split("\n")))
        self.assertEqual(bench.run().rows(), new.run().rows())
        asked = tuple((part, Number(0), Number(2)) for part in sorted(bench.program.parts))
        try:
            rows = new.curve(asked).rows()
        except TooMany:
            self.assertRaises(TooMany, bench.curve, asked)
        else:
            self.assertEqual(bench.curve(asked).rows(), rows)
        given = tuple((part, Number(1, 2)) for part in sorted(bench.program.parts))
        self.assertEqual(bench.run(given).rows(), new.run(given).rows())

    def stays(self, bench, error, action, *args, **more):
        """Checks that a call raises this error, changes nothing, and returns the error."""
        before = depths(bench), bench.text, bench.program
        with self.assertRaises(error) as caught:
            action(*args, **more)
        self.assertIs(type(caught.exception), error)
        self.assertEqual((depths(bench), bench.text, bench.program), before)
        return caught.exception


def depths(bench):
    """What can be undone and made again: the texts behind each call, the present one in the midst."""
    texts = [bench.text]
    back = forth = 0
    while moved(bench.undo):
        texts.insert(0, bench.text)
        back += 1
    for _ in range(back):
        bench.redo()
    while moved(bench.redo):
        texts.append(bench.text)
        forth += 1
    for _ in range(forth):
        bench.undo()
    return back, texts


def moved(call):
    try:
        call()
    except (NothingToUndo, NothingToRedo):
        return False
    return True


def told_error(error):
    return type(error), vars(error)


def is_program(text):
    try:
        Program(text)
    except SpeedError:
        return False
    return True


def drawn_edit(dice, text):
    """Arguments of an edit that takes lines out, doubles them, or puts others in."""
    lines = text.split("\n")
    line = dice.randint(0, len(lines))
    count = dice.randint(0, min(2, len(lines) - line))
    rows = dice.choice([
        [], ["say 1"], ["work 2 dig"], ["work 1 haul", "sleep 1"], ["lock a"], ["if x", "end"], ["part more"],
        [dice.choice(lines)], ["x = 1"], ["wait one"], ["sleep 0"],
    ])
    return line, count, "\n".join(rows) if rows else None
