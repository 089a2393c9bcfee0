"""Webs: places that lead to one another by arrows."""

from holdsets.errors import NoPlace, NoWeb, TooGreat

MOST_PLACES = 40
MOST_ARROWS = 200


def whole_good(thing):
    """Tell whether the thing, whatever it is, is a whole number."""
    # To Python a truth is an int; here it is no number.
    return isinstance(thing, int) and not isinstance(thing, bool)


def place_good(web, thing):
    """Tell whether the thing, whatever it is, is a place of the web."""
    return whole_good(thing) and 0 <= thing < web[0]


def rises(things):
    """Tell whether each of the things is greater than the one ahead."""
    return all([ahead < behind for ahead, behind in zip(things, things[1:])])


def places_good(web, thing):
    """Tell whether the thing, whatever it is, is a rising tuple of places of the web, perhaps none."""
    if not isinstance(thing, tuple):
        return False
    # Only what is known to be numbers can be compared.
    return all([place_good(web, place) for place in thing]) and rises(thing)


def pair_good(web, thing):
    """Tell whether the thing, whatever it is, is a tuple of two unlike places of the web."""
    if not isinstance(thing, tuple) or len(thing) != 2:
        return False
    return place_good(web, thing[0]) and place_good(web, thing[1]) and thing[0] != thing[1]


def many_good(thing):
    """Tell whether the thing, whatever it is, can be how many places a web has."""
    return whole_good(thing) and 1 <= thing <= MOST_PLACES


def web_good(thing):
    """Tell whether the thing, whatever it is, is a web."""
    if not isinstance(thing, tuple) or len(thing) != 2:
        return False
    arrows = thing[1]
    if not many_good(thing[0]) or not isinstance(arrows, tuple) or len(arrows) > MOST_ARROWS:
        return False
    return all([pair_good(thing, arrow) for arrow in arrows]) and rises(arrows)


def web_of(many, things):
    """Tell the web of so many places with the arrows that the list has in any order."""
    if not many_good(many):
        raise NoWeb(-1)
    bare = (many, ())
    seen = {}
    for number, thing in enumerate(things):
        # What is no pair may be nothing that a dict can be asked for, so pairs are asked first.
        if number >= MOST_ARROWS or not pair_good(bare, thing) or thing in seen:
            raise NoWeb(number)
        seen[thing] = True
    return (many, tuple(sorted(seen)))


def bounded_web(many, arrows):
    """Tell the web of so many places with these arrows in any order; refused where it would be too great."""
    if many > MOST_PLACES:
        raise TooGreat(many, MOST_PLACES)
    if len(arrows) > MOST_ARROWS:
        raise TooGreat(len(arrows), MOST_ARROWS)
    return (many, tuple(sorted(arrows)))


def refuse_no_place(web, thing):
    """Refuse the thing, whatever it is, where it is no place of the web."""
    if not place_good(web, thing):
        raise NoPlace()


def leads_to(web, place):
    """Tell the rising list of the places to which the place leads."""
    refuse_no_place(web, place)
    return [b for a, b in web[1] if a == place]


def led_from(web, place):
    """Tell the rising list of the places that lead to the place."""
    refuse_no_place(web, place)
    return [a for a, b in web[1] if b == place]


def all_leads(web):
    """Tell, by places, the rising lists of the places to which each leads."""
    leads = [[] for place in range(web[0])]
    for a, b in web[1]:
        leads[a].append(b)
    return leads


def ends_of(web):
    """Tell the rising list of the places that lead nowhere."""
    return [place for place, leads in enumerate(all_leads(web)) if leads == []]


def turned_web(web):
    """Tell the web in which each arrow leads the other way."""
    return (web[0], tuple(sorted([(b, a) for a, b in web[1]])))


def among_web(web, places):
    """Tell the web of these places alone, numbered anew from 0 on, with the arrows between them."""
    numbers = {}
    for number, place in enumerate(places):
        numbers[place] = number
    # The places rise, so the arrows stay in order under their new numbers.
    arrows = [(numbers[a], numbers[b]) for a, b in web[1] if a in numbers and b in numbers]
    return (len(places), tuple(arrows))


def unlike_places(web, thing):
    """Tell whether the thing, whatever it is, is a tuple of unlike places of the web, in any order."""
    if not isinstance(thing, tuple):
        return False
    return all([place_good(web, place) for place in thing]) and len(set(thing)) == len(thing)


def ring_good(web, thing):
    """Tell whether the thing, whatever it is, is a ring of the web."""
    if not unlike_places(web, thing) or len(thing) < 2:
        return False
    return all([arrow in web[1] for arrow in zip(thing, thing[1:] + thing[:1])])


def order_good(web, thing):
    """Tell whether the thing, whatever it is, is an order of the web."""
    if not unlike_places(web, thing) or len(thing) != web[0]:
        return False
    stands = {}
    for number, place in enumerate(thing):
        stands[place] = number
    return all([stands[a] > stands[b] for a, b in web[1]])


def ready_places(leads, done):
    """Tell the places that are not done while all those are to which they lead."""
    rest = [place for place in range(len(leads)) if place not in done]
    return [place for place in rest if all([b in done for b in leads[place]])]


def ring_among(leads, rest):
    """Tell a ring among the rest, each of which leads to one of the rest."""
    way = []
    place = rest[0]
    while place not in way:
        way.append(place)
        place = [b for b in leads[place] if b in rest][0]
    return tuple(way[way.index(place):])


def order_of(web):
    """Tell the least order of the web, or some ring of it where there is no order."""
    leads = all_leads(web)
    done = {}
    ready = ready_places(leads, done)
    while ready != []:
        # The least place that may stand next never bars an order of the others behind it.
        done[ready[0]] = True
        ready = ready_places(leads, done)
    rest = [place for place in range(web[0]) if place not in done]
    if rest == []:
        return ("order", tuple(done))
    return ("ring", ring_among(leads, rest))


def come_places(leads, place):
    """Tell the dict of the places to which one comes from the place, itself too."""
    found = {place: True}
    waiting = [place]
    while waiting != []:
        here = waiting.pop()
        for b in leads[here]:
            if b not in found:
                found[b] = True
                waiting.append(b)
    return found


def groups_of(web):
    """Tell the list of the groups of the web, by their least places."""
    leads = all_leads(web)
    comes = [come_places(leads, place) for place in range(web[0])]
    groups = []
    for place, found in enumerate(comes):
        group = tuple([other for other in sorted(found) if place in comes[other]])
        # Each place of a group tells the whole group; the least one tells it first.
        if group[0] == place:
            groups.append(group)
    return groups


def comes_of(web, place):
    """Tell the rising tuple of the places to which one comes from the place, itself too."""
    refuse_no_place(web, place)
    return tuple(sorted(come_places(all_leads(web), place)))
