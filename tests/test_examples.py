"""The examples of all sections, as they stand there."""

import unittest

from tests.telling import amount, told
from whatspeed.asking import falls, greatest, least, pulls, reaches
from whatspeed.benches import Bench
from whatspeed.choices import choice
from whatspeed.curves import curve
from whatspeed.desk import Desk
from whatspeed.errors import BadNumber, BadProgram, Doubled, Unnamed
from whatspeed.exact import Line, Number, Stretch
from whatspeed.programs import Program
from whatspeed.runs import run
from whatspeed.texts import show_curve, show_line, show_stretch

EXAMPLE = """cores 1
slice 0
lock door
part fetch
task low 1
work 4 fetch
lock door
work 3
unlock door
task high 2
sleep 5
lock door
work 2
unlock door
say 1"""

TEXT = (
    'cores 1\nslice 0\nlock door\npart fetch\ntask low 1\nwork 4 fetch\nlock door\nwork 3\nunlock door\ntask high 2\n'
    'sleep 5\nlock door\nwork 2\nunlock door\nsay 1'
)
LENT = (
    'cores 2\nslice 3\nlock a lent\ntask one 1\nlock a\nwork 5\nunlock a\ntask two 1\nwork 7\ntask tri 1\nwork 4\n'
    'task top 3\nsleep 2\nlock a\nwork 2\nunlock a'
)
GATE = (
    'cores 2\nslice 0\nlock door\npart fetch\ntask low 1\nwork 4 fetch\nlock door\nwork 30\nunlock door\n'
    'task high 2\nsleep 5\nlock door\nwork 2\nunlock door\nwork 40'
)


class ExamplesTest(unittest.TestCase):

    def test_number(self):
        one = Number(6, -4)
        self.assertEqual(
            [
                one.top, one.bottom, (one + Number(1)).top, one.is_less(Number(0)),
                Number(1).divided_by(Number(3)) == Number(2, 6),
            ],
            [-3, 2, -1, True, True],
        )

    def test_bad_number(self):
        with self.assertRaises(BadNumber) as caught:
            Number(1, 0)
        self.assertEqual(caught.exception.value, (1, 0))

    def test_line_and_stretch(self):
        line = Line(Number(1), Number(2))
        self.assertEqual(
            [
                line(Number(1, 4)).top, line.meets(Line(Number(2), Number(0))) == Number(1, 2),
                Number(1) in Stretch(Number(0), Number(1), has_high=False),
            ],
            [3, True, False],
        )

    def test_program(self):
        program = Program(EXAMPLE)
        self.assertEqual(program.text, EXAMPLE)
        self.assertEqual([len(program.lines), program.lines[5]], [15, "work 4 fetch"])
        self.assertEqual([program.parts, program.tasks], [("fetch",), ("low", "high")])

    def test_bad_program(self):
        with self.assertRaises(BadProgram) as caught:
            Program("cores 1\nslice 0\ntask one 1")
        self.assertEqual(caught.exception.line, 2)

    def test_doubled(self):
        with self.assertRaises(Doubled) as caught:
            Program("cores 1\nslice 0\nlock one\ntask one 1\nsay 1")
        self.assertEqual(caught.exception.line, 3)

    def test_unnamed(self):
        with self.assertRaises(Unnamed) as caught:
            Program("cores 1\nslice 0\ntask one 1\nwait two")
        self.assertEqual(caught.exception.line, 3)

    def test_run(self):
        one = run(Program(TEXT))
        self.assertEqual(
            [
                one.time.top, one.outcome, one.outputs[0][1:], run(Program(TEXT), (('fetch', Number(0)),)).time.top,
                run(Program(TEXT), (('fetch', Number(3, 2)),)).time.top,
            ],
            [9, 'done', ('high', 1), 7, 11],
        )

    def test_run_of_section_5_in_words(self):
        # low gets the door at 4; high wakes at 5, stops low, and waits from 5 on; low has the door until 7.
        one = run(Program(TEXT))
        self.assertEqual([[time.top, time.bottom] for time, _ in one.moments], [[0, 1], [4, 1], [5, 1], [7, 1], [9, 1]])
        holders = [one.state(Number(at)).holder("door") for at in (3, 4, 6, 7, 9)]
        self.assertEqual(holders, [None, "low", "low", "high", None])
        self.assertEqual(one.state(Number(5))["high"], ("lock", "door"))
        # If fetch costs nothing, low is through at 3; if it costs 6, high works until 7, and low ends at 11.
        for factor, low, high in [(Number(0), 3, 7), (Number(3, 2), 11, 7)]:
            one = run(Program(TEXT), (('fetch', factor),))
            ends = [one.time_of(one.events.index(event)).top for event in [("end", "low", 4), ("end", "high", 9)]]
            self.assertEqual(ends, [low, high])

    def test_lent_lock(self):
        one = run(Program(LENT))
        self.assertEqual(
            [one.time.top, len(one.moments), one.moments[1][1]],
            [9, 6, (
                ('wake', 'top', 12), ('stop', 'two', 0), ('run', 'top', 0), ('step', 'top', 13), ('run', 'two', 0),
            )],
        )

    def test_lent_lock_in_words(self):
        one = run(Program(LENT))
        self.assertEqual([time.top for time, _ in one.moments], [0, 2, 5, 7, 8, 9])
        self.assertEqual(told(one)[2], (
            "5: over one 5, slice two 0, run tri 0, step tri 10, step one 6, go top 13, stop tri 0, run top 0, "
            "slice one 1, run tri 1, step top 14"
        ))
        self.assertEqual(one.time_of(one.events.index(("end", "one", 3))), Number(8))

    def test_chain(self):
        one = run(Program(TEXT)).chain()
        self.assertEqual(
            [one[0][:3], one[0][3].top, one[1][:3], one[1][3].top, one[2][:3], one[2][3].top, len(one)],
            [('work', 'high', 12), 2, ('work', 'low', 7), 2, ('sleep', 'high', 10), 5, 3],
        )

    def test_account(self):
        account = run(Program(TEXT)).account('high')
        self.assertEqual(
            [account[0][:2], account[0][2].top, account[1][:2], account[1][2].top, len(account)],
            [('lock', 'door'), 2, ('sleep', ''), 5, 3],
        )

    def test_curve(self):
        one = curve(Program(TEXT), (('fetch', Number(0), Number(2)),))
        self.assertEqual(show_curve(one), (
            '[0 0] done 7\n(0 1/4) done 7\n[1/4 1/4] done 7\n(1/4 5/8) done 5 + 8s\n[5/8 5/8] done 10\n'
            '(5/8 1] done 5 + 8s'
        ))

    def test_asking(self):
        one = curve(Program(GATE), (('fetch', Number(0), Number(2)),))
        self.assertEqual(
            [
                falls(one) == None, show_stretch(reaches(one, Number(50))[0]), least(one)[0].top,  # noqa: E711
                show_stretch(least(one)[1]), greatest(one)[0].top, greatest(one)[1],
            ],
            [False, '[5/8 1]', 47, '[5/8 1]', 77, None],
        )

    def test_section_10_in_words(self):
        # Below 5/8 the time is 8 s + 72, from there on 47.
        one = curve(Program(GATE), (('fetch', Number(0), Number(2)),))
        for s in (Number(1, 10), Number(1, 2), Number(624, 1000)):
            self.assertEqual(one(s), Number(8) * s + Number(72))
            self.assertEqual(show_line(one[s].time), '72 + 8s')
        for s in (Number(5, 8), Number(626, 1000), Number(1)):
            self.assertEqual(one(s), Number(47))
        self.assertEqual([one(Number(0)).top, one(Number(1)).top], [72, 47])
        jumps = [(amount(s), amount(jump)) for s, _, _, _, jump in one.changes()]
        self.assertEqual([jump for jump in jumps if jump[1] != '0'], [('5/8', '-30')])
        found = reaches(one, Number(50))
        self.assertEqual([show_stretch(stretch) for stretch in found], ['[5/8 1]'])
        self.assertGreater(len([cell for cell in one.cells if cell.time(Number(1)) == Number(47)]), 1)

    def test_choice(self):
        offers = (('fetch', Number(0), 3), ('fetch', Number(2), 1))
        found = choice(Program(GATE), offers, Number(50))
        self.assertEqual([found[0], found[1][0][0], found[1][0][1].top], [1, 'fetch', 2])

    def test_bench(self):
        bench = Bench(TEXT)
        bench.edit(5, 1, 'work 6 fetch')
        self.assertEqual([bench.run().time.top, bench.undo(), bench.run().time.top], [11, None, 9])

    def test_desk(self):
        desk = Desk(TEXT)
        self.assertEqual(
            [desk.say('run'), desk.say('why'), desk.say('by 8 fetch 0 2')],
            ['done 9 high:1', 'work high 12 2; work low 7 2; sleep high 10 5', '[0 3/8]'],
        )

    def test_pulls(self):
        row = pulls(Program(TEXT), ())[0]
        self.assertEqual(
            [row[0], row[1][0].top, row[1][1].top, row[2][0].top, row[2][1].top],
            ['fetch', 4, 0, 4, 0],
        )
