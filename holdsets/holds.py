"""Holds looked at: sets of places, told whether and why not they hold a web."""

from holdsets.errors import NoHold, NoPlace
from holdsets.webs import among_web, pair_good, place_good, places_good


def marked(places):
    """Tell a dict with True for each of the places."""
    marks = {}
    for place in places:
        marks[place] = True
    return marks


def tied_arrows(web, places):
    """Tell the list of the arrows both ends of which are of the places."""
    inside = marked(places)
    return [arrow for arrow in web[1] if arrow[0] in inside and arrow[1] in inside]


def lost_places(web, places):
    """Tell the rising list of the places that are neither of the places nor lead to one of them."""
    inside = marked(places)
    held = dict(inside)
    for a, b in web[1]:
        if b in inside:
            held[a] = True
    return [place for place in range(web[0]) if place not in held]


def hold_good(web, thing):
    """Tell whether the thing, whatever it is, is a hold of the web."""
    return places_good(web, thing) and tied_arrows(web, thing) == [] and lost_places(web, thing) == []


def refuse_no_places(web, thing):
    """Refuse the thing, whatever it is, where it is no rising tuple of places of the web."""
    if not places_good(web, thing):
        raise NoPlace()


def first_fault(tied, lost):
    """Tell the first of the tied arrows as a fault, else the first of the lost places, None where there is neither."""
    if tied != []:
        return ("tied", tied[0][0], tied[0][1])
    if lost != []:
        return ("lost", lost[0])
    return None


def why_not(web, places):
    """Tell the first fault for which the places are no hold of the web, None where they are one."""
    refuse_no_places(web, places)
    return first_fault(tied_arrows(web, places), lost_places(web, places))


def fault_good(web, tied, lost, thing):
    """Tell whether the thing, whatever it is, tells one of the tied arrows, or of the lost places, as a fault."""
    if not isinstance(thing, tuple) or thing == ():
        return False
    word = thing[0]
    ends = thing[1:]
    if word == "tied":
        # A truth would be found among the arrows like the number it equals, so pairs are asked first.
        return pair_good(web, ends) and ends in tied
    if word == "lost" and len(ends) == 1:
        return place_good(web, ends[0]) and ends[0] in lost
    return False


def why_not_good(web, places, thing):
    """Tell whether the thing, whatever it is, is a fault for which the places are no hold of the web."""
    refuse_no_places(web, places)
    return fault_good(web, tied_arrows(web, places), lost_places(web, places), thing)


def half_good(web, thing):
    """Tell whether the thing, whatever it is, is a half hold of the web."""
    if not places_good(web, thing) or tied_arrows(web, thing) != []:
        return False
    inside = marked(thing)
    # No arrow stays within, so a place that is led to leads back just where it is not lost.
    lost = marked(lost_places(web, thing))
    return not any([a in inside and b in lost for a, b in web[1]])


def refuse_no_half(web, thing):
    """Refuse the thing, whatever it is, where it is no half hold of the web."""
    if not half_good(web, thing):
        raise NoHold()


def halves_joined(web, one, other):
    """Tell the places of both half holds, None where an arrow leads between them."""
    refuse_no_half(web, one)
    refuse_no_half(web, other)
    both = tuple(sorted(set(one) | set(other)))
    # Neither has an arrow within, so each arrow within both leads from the one to the other.
    if tied_arrows(web, both) != []:
        return None
    return both


def left_by(web, half):
    """Tell the rising tuple of the places that the half hold leaves."""
    refuse_no_half(web, half)
    return tuple(lost_places(web, half))


def put_on(web, half, hold):
    """Tell the hold of the half hold's places and of those of a hold of the web among the places left."""
    left = left_by(web, half)
    if left == () or not hold_good(among_web(web, left), hold):
        raise NoHold()
    return tuple(sorted(half + tuple([left[number] for number in hold])))
