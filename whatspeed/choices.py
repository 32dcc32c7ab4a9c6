"""Choices: the cheapest offers with which a program ends in time, and why cheaper ones do not do."""

from whatspeed.curves import curve
from whatspeed.errors import BadQuestion
from whatspeed.exact import Line, Number
from whatspeed.offers import all_choices, check_offers, has_offered, question_behind
from whatspeed.questions import check_question, is_share, speeds_at
from whatspeed.runs import run
from whatspeed.stretches import parts_with
from whatspeed.values import is_same


def choice(program, offers, limit, *, question=()):
    """(price, choice) with the least price that ends in time, or None; raises BadOffers, BadQuestion, TooMany."""
    _check(program, offers, question)
    # A choice with too many cells is told even if it is not needed, so all of them are looked at.
    rows = [(cost, chosen, _late_row(program, chosen, limit, question)) for cost, chosen in all_choices(offers)]
    for cost, chosen, late in rows:
        if late is None:
            return (cost, chosen)
    return None


def too_late(program, offers, limit, price, *, question=()):
    """(choice, s, outcome, time) for all choices of at most this price; None if one ends in time; raises as choice."""
    _check(program, offers, question)
    choices = [chosen for cost, chosen in all_choices(offers) if cost <= price]
    rows = [_late_row(program, chosen, limit, question) for chosen in choices]
    return None if any([row is None for row in rows]) else tuple(rows)


def shows_too_late(program, offers, limit, price, value, *, question=()):
    """Whether any value is such a tuple, with any s for each choice; raises as too_late."""
    rows = too_late(program, offers, limit, price, question=question)
    if rows is None or not isinstance(value, tuple) or len(value) != len(rows):
        return False
    return all([_is_late_row(program, row[0], limit, question, claim) for row, claim in zip(rows, value)])


def _check(program, offers, question):
    check_offers(program, offers)
    check_question(program, question)
    if has_offered(offers, question):
        raise BadQuestion(question)


def _late_row(program, chosen, limit, question):
    """(choice, s, outcome, time) for an s at which a choice does not end in time; None if there is none."""
    one = curve(program, question_behind(chosen, question))
    bound = Line(limit, Number(0))
    for cell in one.cells:
        late = [cell.stretch]
        if cell.outcome == "done":
            late = parts_with(cell.stretch, cell.time - bound, (1,))
        if late:
            s = late[0].middle
            return (chosen, s, cell.outcome, one(s))
    return None


def _is_late_row(program, chosen, limit, question, claim):
    """Whether any value is such a row for this choice."""
    if not isinstance(claim, tuple) or len(claim) != 4 or not is_share(claim[1]):
        return False
    s = claim[1]
    one = run(program, speeds_at(question_behind(chosen, question), s))
    if one.outcome == "done" and not limit.is_less(one.time):
        return False
    return is_same((chosen, s, one.outcome, one.time), claim)
