"""Offers: whether a value is some, which choices there are among them, and what a choice means for the parts."""

from whatspeed.errors import BadOffers
from whatspeed.exact import is_whole
from whatspeed.questions import is_factor

MOST_OFFERS = 6
GREATEST_PRICE = 99


def check_offers(program, offers):
    """Raises BadOffers for any value that is no offers for the program."""
    if not _are_offers(program, offers):
        raise BadOffers(offers)


def has_offered(offers, question):
    """Whether a question tells something of a part that is offered."""
    offered = [part for part, _, _ in offers]
    return any([part in offered for part, _, _ in question])


def all_choices(offers):
    """(price, choice) for all choices, ascending by price and then as tuples."""
    # Numbers cannot be sorted; but offers ascend, so that their indexes sort as they do.
    found = [(0, ())]
    for at, (part, _, price) in enumerate(offers):
        others = [(cost, indexes) for cost, indexes in found if not _has_part(offers, indexes, part)]
        found.extend([(cost + price, (*indexes, at)) for cost, indexes in others])
    return [(cost, tuple([offers[at] for at in indexes])) for cost, indexes in sorted(found)]


def question_behind(chosen, question):
    """The question that stands for a choice beside a question without its parts."""
    rows = {part: (part, factor, factor) for part, factor, _ in chosen}
    for row in question:
        rows[row[0]] = row
    return tuple([rows[part] for part in sorted(rows)])


def _are_offers(program, offers):
    if not isinstance(offers, tuple) or not 1 <= len(offers) <= MOST_OFFERS:
        return False
    if not all([_is_offer(program, offer) for offer in offers]):
        return False
    return all([_is_below(one, other) for one, other in zip(offers, offers[1:])])


def _is_offer(program, offer):
    if not isinstance(offer, tuple) or len(offer) != 3:
        return False
    part, factor, price = offer
    if part not in program.parts or not is_factor(factor):
        return False
    return is_whole(price) and 1 <= price <= GREATEST_PRICE


def _is_below(one, other):
    """Whether an offer stands ahead of another one: by part, then factor, then price."""
    if one[0] != other[0]:
        return one[0] < other[0]
    if one[1] != other[1]:
        return one[1].is_less(other[1])
    return one[2] < other[2]


def _has_part(offers, indexes, part):
    return any([offers[at][0] == part for at in indexes])
