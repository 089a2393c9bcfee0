"""Marks of webs, and what webs without rings have: one hold, and depths."""

from holdsets.errors import Ringed
from holdsets.holds import hold_good
from holdsets.webs import all_leads, bounded_web, order_of


def truths_good(thing):
    """Tell whether the thing, whatever it is, is a tuple of truths, perhaps none."""
    return isinstance(thing, tuple) and all([isinstance(truth, bool) for truth in thing])


def places_with(truths, wanted):
    """Tell the rising tuple of the places whose truth is the wanted one."""
    return tuple([place for place, truth in enumerate(truths) if truth == wanted])


def marks_good(web, thing):
    """Tell whether the thing, whatever it is, is marks of the web."""
    # Of truths, one for each place, those are marks whose places with True are a hold.
    return truths_good(thing) and len(thing) == web[0] and hold_good(web, places_with(thing, True))


def marks_of(web, hold):
    """Tell the marks of the hold."""
    return tuple([place in hold for place in range(web[0])])


def hold_of(web, marks):
    """Tell the hold of the marks."""
    return places_with(marks, True)


def ringless_order(web):
    """Tell the least order of the web, which is refused where it has a ring."""
    told = order_of(web)
    if told[0] == "ring":
        raise Ringed(told[1])
    return told[1]


def one_hold(web):
    """Tell the one hold of the web, which is refused where it has a ring."""
    leads = all_leads(web)
    inside = {}
    for place in ringless_order(web):
        # All places to which it leads stand ahead of it and are settled.
        if not any([b in inside for b in leads[place]]):
            inside[place] = True
    return tuple(sorted(inside))


def depths_of(web):
    """Tell, by places, how many arrows the longest way on has; the web is refused where it has a ring."""
    leads = all_leads(web)
    depths = [0 for place in range(web[0])]
    for place in ringless_order(web):
        depths[place] = max([depths[b] + 1 for b in leads[place]], default=0)
    return depths


def grown_web(web, places):
    """Tell the web with one place more, the last one, that leads to just these places."""
    return bounded_web(web[0] + 1, list(web[1]) + [(web[0], place) for place in places])
