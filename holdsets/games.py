"""Games: two move a stone along arrows by turns, and who cannot move it loses."""

from holdsets.webs import all_leads, place_good, refuse_no_place, whole_good

# The lengths of lost places are even, those of won places odd.
OUTCOMES = ("lost", "won")


def outcome_by(length):
    """Tell the outcome of a place of this length."""
    if length is None:
        return "open"
    return OUTCOMES[length % 2]


def length_by(beneath):
    """Tell the length of a place by those of the places to which it leads, None where they do not tell it yet."""
    lost = [length for length in beneath if outcome_by(length) == "lost"]
    if lost != []:
        return min(lost) + 1
    if None in beneath:
        return None
    return max(beneath, default=-1) + 1


def lengths_of(web):
    """Tell the tuple of the lengths by places, None for an open one."""
    leads = all_leads(web)
    ahead = ()
    lengths = tuple([None for place in range(web[0])])
    # The first round tells the lengths of 0, each next one those that are one more: no told one is changed.
    while lengths != ahead:
        ahead = lengths
        lengths = tuple([length_by([ahead[b] for b in beneath]) for beneath in leads])
    return lengths


def outcomes(web):
    """Tell the list of "lost", "won" or "open" by places."""
    return [outcome_by(length) for length in lengths_of(web)]


def length_good(thing):
    """Tell whether the thing, whatever it is, can stand among lengths."""
    return thing is None or whole_good(thing)


def lengths_good(web, thing):
    """Tell whether the thing, whatever it is, is the tuple of the lengths by places."""
    # A truth equals a number, so kinds are asked ahead of comparing.
    if not isinstance(thing, tuple) or not all([length_good(length) for length in thing]):
        return False
    return thing == lengths_of(web)


def best_among(leads, lengths, place):
    """Tell the rising list of the best moves of the place."""
    wanted = None
    if lengths[place] is not None:
        wanted = lengths[place] - 1
    return [b for b in leads[place] if lengths[b] == wanted]


def best_moves(web, place):
    """Tell the rising list of the places to which the place leads that are best."""
    refuse_no_place(web, place)
    return best_among(all_leads(web), lengths_of(web), place)


def play_good(web, thing):
    """Tell whether the thing, whatever it is, is a play of best moves to the end."""
    if not isinstance(thing, tuple) or thing == ():
        return False
    if not all([place_good(web, place) for place in thing]):
        return False
    leads = all_leads(web)
    lengths = lengths_of(web)
    best = [best_among(leads, lengths, place) for place in range(web[0])]
    return leads[thing[-1]] == [] and all([b in best[a] for a, b in zip(thing, thing[1:])])


def play_of(web, place):
    """Tell the least play of best moves from the place to the end, None of an open place."""
    refuse_no_place(web, place)
    leads = all_leads(web)
    lengths = lengths_of(web)
    if lengths[place] is None:
        return None
    play = (place,)
    # All such plays from a place have equally many moves, so the least begins with the least best move.
    while leads[play[-1]] != []:
        play = play + (best_among(leads, lengths, play[-1])[0],)
    return play
