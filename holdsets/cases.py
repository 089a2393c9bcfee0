"""Beginnings of holds, and papers of cases that show that no hold begins so."""

from holdsets.errors import NoPlace, TooGreat
from holdsets.holds import fault_good, first_fault, marked, tied_arrows
from holdsets.marks import places_with, truths_good
from holdsets.webs import all_leads

# So many places can all be tried as in and as out.
MOST_TRIED = 12


def refuse_too_great(web):
    """Refuse the web where it has more places than can be tried."""
    if web[0] > MOST_TRIED:
        raise TooGreat(web[0], MOST_TRIED)


def refuse_no_beginning(web, thing):
    """Refuse the thing, whatever it is, where it is no beginning."""
    if not truths_good(thing) or len(thing) > web[0]:
        raise NoPlace()


def tied_begun(web, begun):
    """Tell the list of the arrows both ends of which are in by the beginning."""
    return tied_arrows(web, places_with(begun, True))


def lost_begun(web, begun):
    """Tell the rising list of the places that are out by the beginning, and all to which they lead too."""
    leads = all_leads(web)
    out = marked(places_with(begun, False))
    return [place for place in out if all([b in out for b in leads[place]])]


def fault_begun(web, begun):
    """Tell a paper of one step for the beginning, None where there is none."""
    return first_fault(tied_begun(web, begun), lost_begun(web, begun))


def paper_good(web, begun, thing):
    """Tell whether the thing, whatever it is, is a paper for the beginning."""
    if fault_good(web, tied_begun(web, begun), lost_begun(web, begun), thing):
        return True
    if not isinstance(thing, tuple) or len(thing) != 3 or thing[0] != "cases" or len(begun) >= web[0]:
        return False
    return paper_good(web, begun + (True,), thing[1]) and paper_good(web, begun + (False,), thing[2])


def cases_good(web, begun, thing):
    """Tell whether the thing, whatever it is, is a paper that shows that no hold has the beginning."""
    refuse_no_beginning(web, begun)
    return paper_good(web, begun, thing)


def paper_for(web, begun):
    """Tell a paper for the beginning, None where some hold begins so."""
    fault = fault_begun(web, begun)
    # Where no place is left and there is no fault, the beginning is the whole of a hold.
    if fault is not None or len(begun) == web[0]:
        return fault
    first = paper_for(web, begun + (True,))
    if first is None:
        return None
    second = paper_for(web, begun + (False,))
    if second is None:
        return None
    return ("cases", first, second)


def cases_for(web, begun):
    """Tell a paper that shows that no hold has the beginning, None where some hold begins so."""
    refuse_too_great(web)
    refuse_no_beginning(web, begun)
    return paper_for(web, begun)
