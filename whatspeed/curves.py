"""Curves: how long a program takes, for every s of a question."""

from whatspeed.cells import Cell, cell_around
from whatspeed.errors import NoSpeed, TooMany
from whatspeed.exact import Number, Stretch, is_whole
from whatspeed.fields import joined_pieces, pieces
from whatspeed.questions import check_question, is_share, is_within, speeds_at
from whatspeed.values import is_same

MOST_CELLS = 300


def curve(program, question):
    """The Curve of a program for a question; raises BadQuestion, then TooMany."""
    check_question(program, question)
    return Curve(program, question, _all_cells(program, question))


def shows_curve(program, question, value):
    """Whether any value is what the curve tells as rows; raises BadQuestion, then TooMany."""
    return is_same(curve(program, question).rows(), value)


def shows_cell(program, question, value):
    """Whether any value is one of the rows, however many there are; raises BadQuestion."""
    check_question(program, question)
    stretch = _claimed_stretch(value)
    if stretch is None:
        return False
    return is_same(cell_around(program, question, stretch.middle).row(), value)


def _all_cells(program, question):
    found = []
    start = Number(0)
    for piece in pieces(program, question, start, 1):
        if found and found[-1][1].story == piece[1].story:
            found[-1] = joined_pieces(found[-1], piece)
        elif len(found) == MOST_CELLS:
            raise TooMany()
        else:
            found.append(piece)
    return tuple([Cell(program, question, piece) for piece in found])


def _claimed_stretch(value):
    """The Stretch, ends included, of any value that could be a row; None if it cannot be one."""
    if not isinstance(value, tuple) or len(value) < 4:
        return None
    low, high = _claimed_number(value[0]), _claimed_number(value[2])
    if low is None or not is_within(high, low, Number(1)) or low.is_less(Number(0)):
        return None
    return Stretch(low, high)


def _claimed_number(value):
    if not isinstance(value, tuple) or len(value) != 2 or not is_whole(value[0]) or not is_whole(value[1]):
        return None
    return Number(value[0], value[1]) if value[1] > 0 else None


class Curve:
    """All cells of a program for a question, which never change."""

    def __init__(self, program, question, cells):
        self._program = program
        self._question = question
        self._cells = cells

    @property
    def program(self):
        """The program."""
        return self._program

    @property
    def question(self):
        """The question."""
        return self._question

    @property
    def cells(self):
        """The Cells, ascending."""
        return self._cells

    def __len__(self):
        return len(self._cells)

    def __iter__(self):
        raise TypeError("a Curve cannot be iterated over")

    def __getitem__(self, s):
        if not is_share(s):
            raise NoSpeed(s)
        return [cell for cell in self._cells if s in cell][0]

    def __call__(self, s):
        line = self[s].time
        return line(s)

    def speeds(self, s):
        """The speeds at s, of all parts of the question; raises NoSpeed."""
        if not is_share(s):
            raise NoSpeed(s)
        return speeds_at(self._question, s)

    def borders(self):
        """A generator of the ends of all cells, ascending, each once."""
        yield self._cells[0].stretch.low
        for cell in self._cells:
            # The end of a single s is one of its neighbours, too.
            if cell.stretch.low != cell.stretch.high:
                yield cell.stretch.high

    def changes(self):
        """A generator of (s, place, one, other, jump) for each two neighbouring cells."""
        for cell, follower in zip(self._cells, self._cells[1:]):
            s = cell.stretch.high
            place, one, other = _first_difference(cell, follower)
            gap = follower.time - cell.time
            yield (s, place, one, other, gap(s))

    def rows(self):
        """The curve in plain values."""
        return tuple([cell.row() for cell in self._cells])


def _first_difference(cell, follower):
    """The index of the first moment with other events, and these of both cells, None where there is none."""
    one = [told for _, told in cell.moments]
    other = [told for _, told in follower.moments]
    for at in range(max(len(one), len(other))):
        early = one[at] if at < len(one) else None
        late = other[at] if at < len(other) else None
        if early != late:
            return at, early, late
    return None, None, None
