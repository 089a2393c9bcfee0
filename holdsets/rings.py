"""Rings of odd size, holds of webs without them, and places that are settled by what lies beneath."""

from holdsets.holds import left_by, marked
from holdsets.webs import all_leads, among_web, groups_of, whole_good


def odd_way_back(leads, start):
    """Tell a shortest way of an odd count of arrows from the place back to it, None where there is none."""
    seen = {(start, 0): True}
    waiting = [(start,)]
    while waiting != []:
        way = waiting.pop(0)
        # With the next arrow as many are gone as the way has places.
        odd = len(way) % 2
        for b in leads[way[-1]]:
            if b == start and odd == 1:
                return way
            if (b, odd) not in seen:
                seen[(b, odd)] = True
                waiting.append(way + (b,))
    return None


def odd_ring(web):
    """Tell some odd ring of the web, None where it has none."""
    leads = all_leads(web)
    ways = [odd_way_back(leads, place) for place in range(web[0])]
    # The shortest of all has no place twice: there it would fall into two ways back, one of them odd and shorter.
    return min([way for way in ways if way is not None], key=len, default=None)


def least_places(web):
    """Tell, by places, the least place of the group of each."""
    least = [place for place in range(web[0])]
    for group in groups_of(web):
        for place in group:
            least[place] = group[0]
    return least


def group_arrows(web):
    """Tell the list of the arrows between two places of one group."""
    least = least_places(web)
    return [(a, b) for a, b in web[1] if least[a] == least[b]]


def sides_good(web, thing):
    """Tell whether the thing, whatever it is, is the sides of the web."""
    if not isinstance(thing, tuple) or len(thing) != web[0]:
        return False
    if not all([whole_good(side) and 0 <= side <= 1 for side in thing]):
        return False
    if any([thing[group[0]] != 0 for group in groups_of(web)]):
        return False
    return all([thing[a] != thing[b] for a, b in group_arrows(web)])


def walked_sides(web):
    """Tell a tuple with 0 for the least place of each group, each other place unlike one that leads to it there."""
    leads = all_leads((web[0], tuple(group_arrows(web))))
    waiting = [group[0] for group in groups_of(web)]
    sides = {}
    for start in waiting:
        sides[start] = 0
    while waiting != []:
        place = waiting.pop()
        for b in leads[place]:
            if b not in sides:
                sides[b] = 1 - sides[place]
                waiting.append(b)
    return tuple([sides[place] for place in range(web[0])])


def sides_of(web):
    """Tell the sides of the web, None where it has an odd ring."""
    sides = walked_sides(web)
    # The walk gives each place the one side it can have, so where these are no sides there are none.
    if not sides_good(web, sides):
        return None
    return sides


def bottom_places(web):
    """Tell the rising list of the places of all groups from which no arrow leads to another group."""
    least = least_places(web)
    upper = marked([least[a] for a, b in web[1] if least[a] != least[b]])
    return [place for place in range(web[0]) if least[place] not in upper]


def bottom_half(web):
    """Tell a half hold of the web, which has no odd ring: the places with side 0 of its bottom groups."""
    sides = sides_of(web)
    # A place there with side 1 leads on within its group, and so back to one with side 0.
    return [place for place in bottom_places(web) if sides[place] == 0]


def hold_of_even(web):
    """Tell some hold of the web, which has no odd ring."""
    half = ()
    left = left_by(web, half)
    while left != ():
        more = bottom_half(among_web(web, left))
        half = tuple(sorted(half + tuple([left[number] for number in more])))
        left = left_by(web, half)
    return half


def hold_or_ring(web):
    """Tell some hold of the web where it has no odd ring, else some odd ring."""
    ring = odd_ring(web)
    if ring is None:
        return ("hold", hold_of_even(web))
    return ("ring", ring)


def settled_by(settled, beneath):
    """Tell how a place is settled by those to which it leads, None where they do not settle it."""
    if any([settled[b] is True for b in beneath]):
        return False
    if all([settled[b] is False for b in beneath]):
        return True
    return None


def settled_marks(web):
    """Tell the list of True for each place that is settled as in, False as out, None where it is not settled."""
    leads = all_leads(web)
    ahead = []
    settled = [None for place in range(web[0])]
    # Once told a mark stays as it is, so this ends.
    while settled != ahead:
        ahead = settled
        settled = [settled_by(ahead, beneath) for beneath in leads]
    return settled


def rest_of(web):
    """Tell the rising tuple of the places that are not settled."""
    return tuple([place for place, mark in enumerate(settled_marks(web)) if mark is None])
