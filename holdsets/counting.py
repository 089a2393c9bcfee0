"""All holds of webs of at most twelve places, in order and counted."""

from holdsets.cases import fault_begun, refuse_no_beginning, refuse_too_great
from holdsets.errors import NoHold, NoNumber
from holdsets.holds import hold_good
from holdsets.marks import hold_of, marks_of
from holdsets.webs import whole_good


def all_marks(web):
    """Tell the list of all marks of the web, in no order that is promised."""
    beginnings = [()]
    for place in range(web[0]):
        longer = [begun + (False,) for begun in beginnings] + [begun + (True,) for begun in beginnings]
        beginnings = [begun for begun in longer if fault_begun(web, begun) is None]
    return beginnings


def all_holds(web):
    """Tell the list of all holds of the web, rising as tuples."""
    refuse_too_great(web)
    return sorted([hold_of(web, marks) for marks in all_marks(web)])


def holds_count(web):
    """Tell how many holds the web has."""
    return len(all_holds(web))


def nth_hold(web, number):
    """Tell the hold of the number, counted from 0."""
    holds = all_holds(web)
    if not whole_good(number) or not 0 <= number < len(holds):
        raise NoNumber()
    return holds[number]


def rank_of(web, hold):
    """Tell the number of the hold, counted from 0."""
    refuse_too_great(web)
    if not hold_good(web, hold):
        raise NoHold()
    return all_holds(web).index(hold)


def next_hold(web, hold):
    """Tell the hold behind this one, None behind the last."""
    behind = rank_of(web, hold) + 1
    holds = all_holds(web)
    if behind == len(holds):
        return None
    return holds[behind]


def marks_begun(web, begun):
    """Tell the list of the marks of all holds that have the beginning."""
    refuse_too_great(web)
    refuse_no_beginning(web, begun)
    return [marks for marks in all_marks(web) if marks[:len(begun)] == begun]


def holds_begun(web, begun):
    """Tell how many holds have the beginning."""
    return len(marks_begun(web, begun))


def next_marks(web, begun):
    """Tell the list of the truths, False ahead of True, that the next place has in the holds that begin so."""
    found = marks_begun(web, begun)
    if len(begun) == web[0]:
        return []
    return sorted(set([marks[len(begun)] for marks in found]))


def always_in(web):
    """Tell the rising tuple of the places that each hold of the web has."""
    holds = all_holds(web)
    return tuple([place for place in range(web[0]) if all([place in hold for hold in holds])])


def never_in(web):
    """Tell the rising tuple of the places that no hold of the web has."""
    holds = all_holds(web)
    return tuple([place for place in range(web[0]) if not any([place in hold for hold in holds])])
