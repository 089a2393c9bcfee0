"""Heaps of things of which two take by turns, and who cannot take loses."""

from holdsets.errors import NoNumber, TooGreat
from holdsets.numbers import least_missing, together_of
from holdsets.webs import bounded_web, rises, whole_good

MOST_TAKES = 9
MOST_TAKEN = 9
MOST_THINGS = 5000
MOST_ROUND = 4000
MOST_HEAPS = 8
# The web of heaps to so many things has one place more.
MOST_WEB_THINGS = 39


def number_good(thing, most):
    """Tell whether the thing, whatever it is, is a whole number from 0 to the most."""
    return whole_good(thing) and 0 <= thing <= most


def takes_good(thing):
    """Tell whether the thing, whatever it is, is takes."""
    if not isinstance(thing, tuple) or not 1 <= len(thing) <= MOST_TAKES:
        return False
    # Only what is known to be numbers can be compared.
    return all([number_good(take, MOST_TAKEN) and take > 0 for take in thing]) and rises(thing)


def refuse_no_number(thing, most):
    """Refuse the thing, whatever it is, where it is no whole number from 0 to the most."""
    if not number_good(thing, most):
        raise NoNumber()


def numbers_to(takes, most):
    """Tell the list of the numbers of the heaps from 0 things to the most."""
    numbers = []
    for heap in range(most + 1):
        numbers.append(least_missing([numbers[heap - take] for take in takes if take <= heap]))
    return numbers


def heap_numbers(takes, most):
    """Tell the list of the numbers of the heaps from 0 things to the most."""
    refuse_no_number(most, MOST_THINGS)
    return numbers_to(takes, most)


def heap_round(takes):
    """Tell the round with the least lap and for it the least start, None where there is none that is short enough."""
    wide = max(takes, default=0)
    numbers = numbers_to(takes, MOST_ROUND + wide)
    seen = {}
    for heap in range(MOST_ROUND + 1):
        # So many numbers on end settle all that follow, so the first ones that come again begin the round.
        found = tuple(numbers[heap:heap + wide])
        if found in seen:
            return (seen[found], heap - seen[found])
        seen[found] = heap
    return None


def round_good(takes, thing):
    """Tell whether the thing, whatever it is, is a round of the takes that is short enough."""
    if not isinstance(thing, tuple) or len(thing) != 2:
        return False
    start = thing[0]
    lap = thing[1]
    if not number_good(start, MOST_ROUND) or not number_good(lap, MOST_ROUND - start) or lap == 0:
        return False
    wide = max(takes, default=0)
    numbers = numbers_to(takes, start + lap + wide)
    return numbers[start:start + wide] == numbers[start + lap:start + lap + wide]


def heap_far(takes, heap):
    """Tell the number of the heap, be it ever so far on."""
    refuse_no_number(heap, 10 ** 40)
    if heap <= MOST_THINGS:
        return numbers_to(takes, heap)[heap]
    found = heap_round(takes)
    if found is None:
        raise TooGreat(heap, MOST_THINGS)
    start = found[0]
    return numbers_to(takes, start + (heap - start) % found[1])[-1]


def refuse_no_heaps(thing):
    """Refuse the thing, whatever it is, where it is no heaps."""
    if not isinstance(thing, list) or not 1 <= len(thing) <= MOST_HEAPS:
        raise NoNumber()
    for heap in thing:
        refuse_no_number(heap, MOST_THINGS)


def heaps_number(takes, heaps):
    """Tell what the numbers of the heaps are together."""
    refuse_no_heaps(heaps)
    numbers = numbers_to(takes, max(heaps))
    return together_of([numbers[heap] for heap in heaps])


def good_takes(takes, heaps):
    """Tell the rising list of the turns (heap, take) behind which the heaps' number is 0."""
    together = heaps_number(takes, heaps)
    numbers = numbers_to(takes, max(heaps))
    turns = []
    for place, heap in enumerate(heaps):
        # With the heap's own number the others' is left, and a take is good that makes its number theirs.
        others = together_of([together, numbers[heap]])
        turns.extend([(place, take) for take in takes if take <= heap and numbers[heap - take] == others])
    return turns


def heap_web(takes, most):
    """Tell the web of the heaps from 0 things to the most, of which each leads to those that a take leads to."""
    refuse_no_number(most, MOST_WEB_THINGS)
    arrows = []
    for heap in range(most + 1):
        arrows.extend([(heap, heap - take) for take in takes if take <= heap])
    return bounded_web(most + 1, arrows)


def zero_heaps(takes, most):
    """Tell the rising list of the heaps to the most things whose number is 0."""
    return [heap for heap, number in enumerate(heap_numbers(takes, most)) if number == 0]
