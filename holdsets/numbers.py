"""Numbers of places, and games with several stones that are settled by these."""

from holdsets.errors import NoPlace, TooGreat
from holdsets.marks import ringless_order
from holdsets.webs import all_leads, leads_to, place_good, whole_good

MOST_STONES = 8
# The web of a number has one place more; one number more, and it would have more arrows than a web may have.
MOST_NUMBER = 19


def least_missing(numbers):
    """Tell the least whole number from 0 on that is none of the numbers."""
    number = 0
    while number in numbers:
        number += 1
    return number


def numbers_good(web, thing):
    """Tell whether the thing, whatever it is, is numbers of the web."""
    if not isinstance(thing, tuple) or len(thing) != web[0]:
        return False
    if not all([whole_good(number) for number in thing]):
        return False
    beneath = [[thing[b] for b in leads] for leads in all_leads(web)]
    return all([number == least_missing(others) for number, others in zip(thing, beneath)])


def numbers_of(web):
    """Tell the numbers of the web, which is refused where it has a ring."""
    leads = all_leads(web)
    numbers = {}
    for place in ringless_order(web):
        # All places to which it leads stand ahead of it and have their numbers.
        numbers[place] = least_missing([numbers[b] for b in leads[place]])
    return tuple([numbers[place] for place in range(web[0])])


def together_of(numbers):
    """Tell what the numbers are together without carrying."""
    together = 0
    for number in numbers:
        together = together ^ number
    return together


def stones_good(web, thing):
    """Tell whether the thing, whatever it is, is stones on places of the web."""
    if not isinstance(thing, tuple) or len(thing) > MOST_STONES:
        return False
    return all([place_good(web, place) for place in thing])


def refuse_no_stones(web, thing):
    """Refuse the thing, whatever it is, where it is no stones on places of the web."""
    if not stones_good(web, thing):
        raise NoPlace()


def stones_number(web, stones):
    """Tell what the numbers of the stones' places are together."""
    numbers = numbers_of(web)
    refuse_no_stones(web, stones)
    return together_of([numbers[place] for place in stones])


def good_moves(web, stones):
    """Tell the rising list of the moves (stone, place) behind which the stones' number is 0."""
    together = stones_number(web, stones)
    numbers = numbers_of(web)
    moves = []
    for stone, place in enumerate(stones):
        # With the stone's own number the others' is left, and a move is good that makes its number theirs.
        others = together_of([together, numbers[place]])
        moves.extend([(stone, b) for b in leads_to(web, place) if numbers[b] == others])
    return moves


def number_web(most):
    """Tell the web of the places 0 to the most, of which each leads to all lesser ones."""
    if most > MOST_NUMBER:
        raise TooGreat(most, MOST_NUMBER)
    arrows = []
    for place in range(most + 1):
        arrows.extend([(place, lesser) for lesser in range(place)])
    return (most + 1, tuple(arrows))
