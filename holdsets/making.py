"""Webs made of webs: beside one another, both at once, of arrows, and put in for a place."""

from holdsets.errors import NoArrow, NoHold
from holdsets.holds import hold_good, marked
from holdsets.webs import bounded_web, refuse_no_place


def beside_web(web, other):
    """Tell the web of the places of both, those of the other one behind, with all arrows of both."""
    many = web[0]
    return bounded_web(many + other[0], list(web[1]) + [(many + a, many + b) for a, b in other[1]])


def both_web(web, other):
    """Tell the web in which a stone lies on a place of each and a move is one arrow of one of them."""
    many = other[0]
    arrows = []
    for b in range(many):
        arrows.extend([(a * many + b, c * many + b) for a, c in web[1]])
    for a in range(web[0]):
        arrows.extend([(a * many + b, a * many + c) for b, c in other[1]])
    return bounded_web(web[0] * many, arrows)


def arrows_web(web):
    """Tell the web whose places are the arrows of the web, each of which leads to those that go on from its end."""
    if web[1] == ():
        raise NoArrow()
    arrows = []
    for number, arrow in enumerate(web[1]):
        arrows.extend([(number, onward) for onward, other in enumerate(web[1]) if other[0] == arrow[1]])
    return bounded_web(len(web[1]), arrows)


def refuse_no_hold(web, thing):
    """Refuse the thing, whatever it is, where it is no hold of the web."""
    if not hold_good(web, thing):
        raise NoHold()


def hold_to_arrows(web, hold):
    """Tell the hold of the web of arrows that has those whose second end is in the hold."""
    # A web whose web of arrows cannot be told is refused ahead of the hold.
    arrows_web(web)
    refuse_no_hold(web, hold)
    return tuple([number for number, arrow in enumerate(web[1]) if arrow[1] in hold])


def hold_from_arrows(web, hold):
    """Tell the hold of the web that has the places from which no arrow of the hold leads."""
    refuse_no_hold(arrows_web(web), hold)
    left = marked([web[1][number][0] for number in hold])
    return tuple([place for place in range(web[0]) if place not in left])


def stands_for(web, place, other):
    """Tell, by places of the web, the lists of those places of the web made by putting in that stand for each."""
    kept = web[0] - 1
    stands = [[old] for old in range(place)]
    stands.append([kept + new for new in range(other[0])])
    stands.extend([[old] for old in range(place, kept)])
    return stands


def put_in(web, place, other):
    """Tell the web in which the place is replaced by the other web."""
    refuse_no_place(web, place)
    kept = web[0] - 1
    stands = stands_for(web, place, other)
    arrows = [(kept + a, kept + b) for a, b in other[1]]
    for a, b in web[1]:
        for new in stands[a]:
            arrows.extend([(new, end) for end in stands[b]])
    return bounded_web(kept + other[0], arrows)
