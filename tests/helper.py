"""What several tests hand in."""

import itertools
import random


def nested(wrap, deep):
    thing = 0
    for _ in range(deep):
        thing = wrap(thing)
    return thing


def whatever():
    """Things of every kind that may be handed in, made anew by each call; none of them is a web."""
    return [
        None, True, False, 0, 1, -1, 2, 39, 40, 41, 200, 10 ** 99, 10 ** 100 - 1, -(10 ** 99),
        "", " ", "0", "1", "~", "tied", "lost", "(0,)", "None",
        [], (), {}, [0], (0,), {0: 0}, [0, 1], (0, 1), (1, 0), {0: 1, 1: 0}, (0, 0), (1, 1), (0, 1, 2), (2, 1, 0),
        (True,), (False,), (False, 1), (0, True), (False, True), (None,), ("0",), ("",), ([],), ((),), ({},),
        ([0],), ((0,),), ((0, 1),), [(0, 1)], [[0, 1]], ([0, 1],), (0, None), (0, "1"), (0, [1]), (0, {}),
        (-1,), (-1, 0), (0, -1), (0, 40), (40,), (10 ** 99,), (0, 10 ** 99), (0, 1, 1), (0, 0, 1),
        {"a": [1, (2, {"b": None})]}, ("tied",), ("lost",), ("tied", 0), ("lost", 0, 1), ("tied", True, False),
        ("lost", False), ["tied", 0, 1], ["lost", 0], ("tied", (0, 1)), ("lost", (0,)), ("lost", [0]), ("lost", None),
        (2, [(0, 1)]), [2, ((0, 1),)], (2, ([0, 1],)), (True, ()), (2, ((0, True),)), (2, ((False, 1),)),
        nested(lambda thing: [thing], 50), nested(lambda thing: (thing,), 50), nested(lambda thing: {0: thing}, 50),
        nested(lambda thing: (thing, [thing]) if thing == 0 else (thing,), 50),
        (True, False), (False, False), (True, True, False), [True, False], (True, 0), (1, False), (True, None), ((True,),),
        {True: False}, (True, "False"), (False,) * 45, "cases", ("cases",), ("cases", (), ()), ("cases", True, False),
        ("cases", ("lost", 0), ("lost", 0)), ("cases", ("tied", 0, 1), ("lost", 0)), ["cases", ("lost", 0), ("lost", 0)],
        nested(lambda thing: ("cases", thing, 0), 50), nested(lambda thing: ("cases", ("lost", 0), thing), 49),
        (0, 1, 0, 1), (1, 0, 1, 0), (0, 0, 0, 0), (False, True, False, True), [0, 1, 0, 1], (0, True, 0, 1), (0, 1, 0, 2),
        (0, 1, 0, None), (None,) * 4, [None] * 4, (None, None), (1, 0, None, None), (3, 2, 1, 0), [3, 2, 1, 0],
        (0,) * 8, (0,) * 9,
        [0] * 3, (0, 0, "0"), (0, [0]), (0, 10 ** 99, 0, 1), ("0", "1", "0", "1"), "lost", "won", "open",
        {0: 0, 1: 1, 2: 0, 3: 1},
    ]


def pairs_of(many):
    return [(a, b) for a in range(many) for b in range(many) if a != b]


def webs_with(many, step=1):
    """Every web, or every so manyth one, of so many places."""
    pairs = pairs_of(many)
    return [
        (many, tuple(pair for k, pair in enumerate(pairs) if bits >> k & 1))
        for bits in range(0, 2 ** len(pairs), step)
    ]


def small_webs():
    """All webs of one to three places, and some of four."""
    return webs_with(1) + webs_with(2) + webs_with(3) + webs_with(4, 11)


def great_webs():
    """Webs up to the greatest ones, the same ones each time."""
    drawn = random.Random(1)
    webs = []
    for many, count in ((40, 0), (40, 40), (40, 90), (40, 200), (15, 200), (25, 60), (9, 12)):
        webs.append((many, tuple(sorted(drawn.sample(pairs_of(many), count)))))
        downward = [(a, b) for a, b in pairs_of(many) if a > b]
        webs.append((many, tuple(sorted(drawn.sample(downward, min(count, len(downward)))))))
    return webs


def ringless_webs():
    """Webs without rings, one or two of each number of places from 1 to 40, whose numbers follow no order."""
    drawn = random.Random(2)
    webs = []
    for many in range(1, 41):
        order = drawn.sample(range(many), many)
        steps = [(order[a], order[b]) for a in range(many) for b in range(a)]
        for count in sorted({min(many, len(steps)), min(4 * many, len(steps), 200)}):
            webs.append((many, tuple(sorted(drawn.sample(steps, count)))))
    return webs


def counted_webs():
    """Some webs of five to twelve places, the same ones each time."""
    drawn = random.Random(3)
    webs = []
    for many in range(5, 13):
        for count in (many - 1, many + 2, 3 * many):
            webs.append((many, tuple(sorted(drawn.sample(pairs_of(many), min(count, many * (many - 1)))))))
        ring = tuple(sorted((place, (place + 1) % many) for place in range(many)))
        webs.append((many, ring))
    return webs


def even_webs():
    """Webs without odd rings, of 1 to 40 places whose numbers follow no order, some of them with many rings."""
    drawn = random.Random(4)
    webs = []
    for many in range(1, 41):
        order = drawn.sample(range(many), many)
        # Between two blocks arrows lead back alone; within a block they lead from one of two sides to the other one.
        side = [drawn.randrange(2) for _ in range(many)]
        for wide in (2, 5, many):
            pairs = [
                (order[a], order[b]) for a, b in pairs_of(many)
                if a // wide > b // wide or a // wide == b // wide and side[a] != side[b]
            ]
            count = min(len(pairs), 200, drawn.choice((many, 2 * many, 5 * many)))
            webs.append((many, tuple(sorted(drawn.sample(pairs, count)))))
    return webs


def drawn_webs():
    """Webs of 1 to 40 places with few or many arrows, the same ones each time."""
    drawn = random.Random(6)
    webs = []
    for many in range(1, 41):
        for count in (many // 2, many, many + many // 3, 2 * many, 5 * many):
            webs.append((many, tuple(sorted(drawn.sample(pairs_of(many), min(count, many * (many - 1), 200))))))
    return webs


def subsets(places):
    """All rising tuples of some of the places, perhaps none."""
    places = tuple(places)
    return [some for count in range(len(places) + 1) for some in itertools.combinations(places, count)]


def is_place(web, thing):
    return repr(thing) in [repr(place) for place in range(web[0])]


def is_rising_places(web, thing):
    if not isinstance(thing, tuple) or not all(is_place(web, part) for part in thing):
        return False
    return list(thing) == sorted(set(thing))


def is_tied(web, places):
    return any(a in places and b in places for a, b in web[1])


def leads_into(web, place, places):
    return any((place, b) in web[1] for b in places)


def is_lost(web, places, place):
    return place not in places and not leads_into(web, place, places)


def is_hold(web, places):
    return not is_tied(web, places) and not any(is_lost(web, places, place) for place in range(web[0]))


def holds_by_trial(web):
    """Tell all holds of a small web, rising as tuples, by trying all sets of places."""
    return sorted(some for some in subsets(range(web[0])) if is_hold(web, some))


def is_ring(web, places):
    return len(places) > 1 and all(step in web[1] for step in zip(places, places[1:] + places[:1]))


def rings_of(web):
    """Tell all rings of a small web, by trying all rows of its places."""
    ways = [way for count in range(2, web[0] + 1) for way in itertools.permutations(range(web[0]), count)]
    return [way for way in ways if is_ring(web, way)]


def is_odd_ring(web, thing):
    if not isinstance(thing, tuple) or not all(is_place(web, part) for part in thing) or len(thing) % 2 == 0:
        return False
    return len(set(thing)) == len(thing) and is_ring(web, thing)


def has_odd_way_back(web):
    """Tell whether some way of an odd count of arrows leads back to its start, by a table of where each way may lead."""
    many = web[0]
    # The row of a place has a bit for each place to come to by an even count of arrows, and many bits on by an odd one.
    rows = [0] * (2 * many)
    for a, b in web[1]:
        rows[a] |= 1 << many + b
        rows[many + a] |= 1 << b
    for middle in range(2 * many):
        for start in range(2 * many):
            if rows[start] >> middle & 1:
                rows[start] |= rows[middle]
    return any(rows[place] >> many + place & 1 for place in range(many))


def settled_by_layers(web):
    """Tell True, False or None by places: ends of what is not settled yet are in, what leads to them is out."""
    settled = [None] * web[0]
    while True:
        rest = {place for place in range(web[0]) if settled[place] is None}
        ends = [place for place in rest if not any(a == place and b in rest for a, b in web[1])]
        if not ends:
            return settled
        for place in ends:
            settled[place] = True
        for a, b in web[1]:
            if b in ends:
                settled[a] = False


def beginnings_of(web):
    """Tell all beginnings of a small web, those of fewer truths ahead."""
    return [some for count in range(web[0] + 1) for some in itertools.product((False, True), repeat=count)]


def is_beginning(web, thing):
    if not isinstance(thing, tuple) or len(thing) > web[0]:
        return False
    return all(repr(truth) in ("True", "False") for truth in thing)
