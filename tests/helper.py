"""What several tests hand in."""

import itertools
import random


def nested(wrap, deep):
    thing = 0
    for _ in range(deep):
        thing = wrap(thing)
    return thing


def whatever():
    """Things of every kind that may be handed in, made anew by each call; none of them is a web."""
    return [
        None, True, False, 0, 1, -1, 2, 39, 40, 41, 200, 10 ** 99, 10 ** 100 - 1, -(10 ** 99),
        "", " ", "0", "1", "~", "tied", "lost", "(0,)", "None",
        [], (), {}, [0], (0,), {0: 0}, [0, 1], (0, 1), (1, 0), {0: 1, 1: 0}, (0, 0), (1, 1), (0, 1, 2), (2, 1, 0),
        (True,), (False,), (False, 1), (0, True), (False, True), (None,), ("0",), ("",), ([],), ((),), ({},),
        ([0],), ((0,),), ((0, 1),), [(0, 1)], [[0, 1]], ([0, 1],), (0, None), (0, "1"), (0, [1]), (0, {}),
        (-1,), (-1, 0), (0, -1), (0, 40), (40,), (10 ** 99,), (0, 10 ** 99), (0, 1, 1), (0, 0, 1),
        {"a": [1, (2, {"b": None})]}, ("tied",), ("lost",), ("tied", 0), ("lost", 0, 1), ("tied", True, False),
        ("lost", False), ["tied", 0, 1], ["lost", 0], ("tied", (0, 1)), ("lost", (0,)), ("lost", [0]), ("lost", None),
        (2, [(0, 1)]), [2, ((0, 1),)], (2, ([0, 1],)), (True, ()), (2, ((0, True),)), (2, ((False, 1),)),
        nested(lambda thing: [thing], 50), nested(lambda thing: (thing,), 50), nested(lambda thing: {0: thing}, 50),
        nested(lambda thing: (thing, [thing]) if thing == 0 else (thing,), 50),
    ]


def pairs_of(many):
    return [(a, b) for a in range(many) for b in range(many) if a != b]


def webs_with(many, step=1):
    """Every web, or every so manyth one, of so many places."""
    pairs = pairs_of(many)
    return [
        (many, tuple(pair for k, pair in enumerate(pairs) if bits >> k & 1))
        for bits in range(0, 2 ** len(pairs), step)
    ]


def small_webs():
    """All webs of one to three places, and some of four."""
    return webs_with(1) + webs_with(2) + webs_with(3) + webs_with(4, 11)


def great_webs():
    """Webs up to the greatest ones, the same ones each time."""
    drawn = random.Random(1)
    webs = []
    for many, count in ((40, 0), (40, 40), (40, 90), (40, 200), (15, 200), (25, 60), (9, 12)):
        webs.append((many, tuple(sorted(drawn.sample(pairs_of(many), count)))))
        downward = [(a, b) for a, b in pairs_of(many) if a > b]
        webs.append((many, tuple(sorted(drawn.sample(downward, min(count, len(downward)))))))
    return webs


def subsets(places):
    """All rising tuples of some of the places, perhaps none."""
    places = tuple(places)
    return [some for count in range(len(places) + 1) for some in itertools.combinations(places, count)]


def is_place(web, thing):
    return repr(thing) in [repr(place) for place in range(web[0])]


def is_rising_places(web, thing):
    if not isinstance(thing, tuple) or not all(is_place(web, part) for part in thing):
        return False
    return list(thing) == sorted(set(thing))
