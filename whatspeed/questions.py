"""Speeds and questions: whether a value is one, and what they say about the factors of the parts."""

from whatspeed.errors import BadQuestion, BadSpeeds
from whatspeed.exact import Line, Number

GREATEST_FACTOR = 9


def is_within(value, low, high):
    """Whether any value is a Number from low to high."""
    return isinstance(value, Number) and not value.is_less(low) and not high.is_less(value)


def is_factor(value):
    """Whether any value is a factor of a part."""
    return is_within(value, Number(0), Number(GREATEST_FACTOR))


def is_share(value):
    """Whether any value is an s: a Number from 0 to 1."""
    return is_within(value, Number(0), Number(1))


def check_speeds(program, speeds):
    """Raises BadSpeeds for any value that is no speeds of the program."""
    if not _are_rows(program, speeds, 2):
        raise BadSpeeds(speeds)


def check_question(program, question):
    """Raises BadQuestion for any value that is no question for the program."""
    if not _are_rows(program, question, 3):
        raise BadQuestion(question)


def _are_rows(program, rows, width):
    """Whether any value is an ascending tuple of rows (part, factors), each part once."""
    if not isinstance(rows, tuple):
        return False
    before = ""
    for row in rows:
        if not _is_row(program, row, width) or row[0] <= before:
            return False
        before = row[0]
    return True


def _is_row(program, row, width):
    if not isinstance(row, tuple) or len(row) != width or row[0] not in program.parts:
        return False
    return all([is_factor(factor) for factor in row[1:]])


def factors_of_speeds(program, speeds):
    """The factor of each part, as a Line that is the same everywhere."""
    factors = {part: Line(Number(1), Number(0)) for part in program.parts}
    for part, factor in speeds:
        factors[part] = Line(factor, Number(0))
    return factors


def factors_of_question(program, question):
    """The factor of each part, as a Line over s."""
    factors = factors_of_speeds(program, ())
    for part, start, goal in question:
        factors[part] = Line(start, goal - start)
    return factors


def speeds_at(question, s):
    """The speeds that a question means at s."""
    return tuple([(part, start + (goal - start) * s) for part, start, goal in question])
