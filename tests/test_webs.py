"""[1.1] to [1.5]: holdsets.webs."""

import itertools
import random
import unittest

from holdsets.errors import NoPlace, NoWeb
from holdsets.webs import (
    among_web, comes_of, ends_of, groups_of, leads_to, led_from, order_good, order_of, ring_good, turned_web, web_good,
    web_of,
)
from tests.helper import great_webs, is_place, pairs_of, rings_of, small_webs, webs_with, whatever

PAIRS = tuple(pairs_of(40))
DOWN = (4, ((1, 0), (2, 0), (2, 1), (3, 1)))
RINGED = (6, ((0, 1), (1, 2), (2, 0), (2, 3), (3, 4), (4, 3)))


def no_places(web):
    """Whatever there is that is no place of the web."""
    return [thing for thing in whatever() if not is_place(web, thing)] + [web[0], -1, True, False]


def orders_of(web):
    ways = itertools.permutations(range(web[0]))
    return [way for way in ways if all(way.index(a) > way.index(b) for a, b in web[1])]


def reach_of(web):
    """Tell, by places, the sets of the places to which one comes, by doubling ways."""
    reach = [{place} | {b for a, b in web[1] if a == place} for place in range(web[0])]
    for _ in range(7):
        reach = [set().union(*[reach[b] for b in found]) for found in reach]
    return reach


class WebGoodTest(unittest.TestCase):
    """[1.1]"""

    def good(self, *things):
        for thing in things:
            with self.subTest(thing=thing):
                self.assertIs(web_good(thing), True)

    def bad(self, *things):
        for thing in things:
            with self.subTest(thing=thing):
                self.assertIs(web_good(thing), False)

    def test_ordinary_webs(self):
        self.good(DOWN, RINGED, (2, ((0, 1),)), (2, ((1, 0),)), (2, ((0, 1), (1, 0))), (3, ()))

    def test_all_small_and_some_great_webs(self):
        self.good(*small_webs(), *great_webs())

    def test_how_many_places(self):
        self.good((1, ()), (40, ()), (40, ((0, 39), (39, 0))))
        self.bad((0, ()), (41, ()), (-1, ()), (10 ** 99, ()), (41, ((0, 1),)))

    def test_how_many_arrows(self):
        self.good((40, PAIRS[:200]), (15, tuple(pairs_of(15)[:200])))
        self.bad((40, PAIRS[:201]), (40, PAIRS))

    def test_arrows_that_do_not_rise(self):
        self.bad((3, ((1, 0), (0, 1))), (3, ((0, 2), (0, 1))), (4, ((0, 1), (2, 3), (1, 2))))

    def test_arrows_that_stand_twice(self):
        self.bad((2, ((0, 1), (0, 1))), (3, ((0, 1), (1, 2), (1, 2))))

    def test_arrows_from_a_place_to_itself(self):
        self.bad((1, ((0, 0),)), (2, ((0, 1), (1, 1))))

    def test_arrows_beyond_the_places(self):
        self.bad((2, ((0, 2),)), (2, ((2, 0),)), (2, ((-1, 0),)), (2, ((0, -1),)), (1, ((0, 1),)), (40, ((0, 40),)))

    def test_truths_for_numbers(self):
        self.bad((True, ()), (2, ((False, 1),)), (2, ((0, True),)), (2, ((False, True),)), (False, ()))

    def test_other_things_for_numbers(self):
        self.bad(("2", ()), (None, ()), ([2], ()), (2, (("0", 1),)), (2, ((0, None),)), (2, ((0, (1,)),)))

    def test_lists_for_tuples(self):
        self.bad([2, ((0, 1),)], (2, [(0, 1)]), (2, ([0, 1],)), (2, []), [2, []], (2, {}), (2, {(0, 1): True}))

    def test_tuples_too_short_and_too_long(self):
        self.bad((), (2,), (2, (), ()), (2, ((0,),)), (2, ((),)), (3, ((0, 1, 2),)), (2, ((0, 1), ())))

    def test_things_among_the_arrows(self):
        for thing in whatever():
            if repr(thing) not in ("(0, 1)", "(1, 0)"):
                self.bad((2, (thing,)), (2, (thing, (1, 0))), (2, ((0, 1), thing)))

    def test_things_for_both_parts(self):
        for thing in whatever():
            if repr(thing) not in ("1", "2", "39", "40"):
                self.bad((thing, ()))
            if repr(thing) not in ("()", "((0, 1),)"):
                self.bad((3, thing))

    def test_whatever(self):
        self.bad(*whatever())


class WebOfTest(unittest.TestCase):
    """[1.2]"""

    def refused(self, number, many, things):
        with self.assertRaises(NoWeb) as caught:
            web_of(many, things)
        self.assertIs(type(caught.exception), NoWeb)
        self.assertEqual(repr(caught.exception.number), repr(number))

    def test_webs(self):
        self.assertEqual(web_of(1, []), (1, ()))
        self.assertEqual(web_of(40, []), (40, ()))
        self.assertEqual(web_of(2, [(1, 0), (0, 1)]), (2, ((0, 1), (1, 0))))
        self.assertEqual(web_of(4, [(3, 1), (2, 1), (1, 0), (2, 0)]), DOWN)

    def test_arrows_in_any_order(self):
        for web in small_webs()[::7] + great_webs():
            arrows = list(web[1])
            self.assertEqual(web_of(web[0], arrows), web)
            self.assertEqual(web_of(web[0], arrows[::-1]), web)
            random.Random(2).shuffle(arrows)
            self.assertEqual(web_of(web[0], arrows), web)
            self.assertIs(web_good(web_of(web[0], arrows)), True)

    def test_many_that_is_none(self):
        for many in whatever():
            if repr(many) not in ("1", "2", "39", "40"):
                with self.subTest(many=many):
                    self.refused(-1, many, [])
        for many in (0, 41, -1, True, False, "1", None):
            self.refused(-1, many, [])

    def test_many_goes_ahead_of_the_list(self):
        for things in ([(0, 0)], ["x"], list(PAIRS[:201]), [(0, 1), (0, 1)]):
            self.refused(-1, 0, things)
            self.refused(-1, True, things)

    def test_things_that_are_no_pairs(self):
        for thing in whatever():
            if repr(thing) not in ("(0, 1)", "(1, 0)"):
                with self.subTest(thing=thing):
                    self.refused(0, 2, [thing])
                    self.refused(1, 2, [(0, 1), thing])
                    self.refused(1, 2, [(0, 1), thing, thing, (1, 0)])

    def test_each_kind_that_is_amiss(self):
        for thing in ((1, 1), (0, 3), (3, 0), (-1, 0), (0, -1), (0, True), (False, 1), [0, 1], (0,), (0, 1, 2), (0, 2)):
            with self.subTest(thing=thing):
                self.refused(2, 3, [(0, 2), (2, 1), thing, (1, 0)])

    def test_things_that_stand_twice(self):
        self.refused(1, 2, [(0, 1), (0, 1)])
        self.refused(3, 3, [(0, 1), (2, 1), (1, 0), (2, 1), (0, 1)])

    def test_the_two_hundred_and_first(self):
        self.assertEqual(web_of(40, list(PAIRS[:200])), (40, PAIRS[:200]))
        self.refused(200, 40, list(PAIRS[:201]))
        self.refused(200, 40, list(PAIRS[:300]))
        self.refused(200, 40, list(PAIRS[:200]) + [None])
        self.refused(200, 40, list(PAIRS[:200]) + [PAIRS[0]])

    def test_the_first_thing_goes_ahead_of_the_two_hundred_and_first(self):
        self.refused(199, 40, list(PAIRS[:199]) + [PAIRS[5]] + list(PAIRS[199:210]))
        self.refused(0, 40, [None] + list(PAIRS[:300]))

    def test_the_first_of_several_is_told(self):
        self.refused(1, 3, [(0, 1), (0, 1), (2, 2), None])
        self.refused(1, 3, [(0, 1), (2, 2), (0, 1), None])
        self.refused(1, 3, [(0, 1), None, (2, 2), (0, 1)])


class PlacesTest(unittest.TestCase):
    """[1.3]"""

    def test_an_ordinary_web(self):
        self.assertEqual([leads_to(DOWN, place) for place in range(4)], [[], [0], [0, 1], [1]])
        self.assertEqual([led_from(DOWN, place) for place in range(4)], [[1, 2], [2, 3], [], []])
        self.assertEqual(ends_of(DOWN), [0])
        self.assertEqual(ends_of(RINGED), [5])
        self.assertEqual(ends_of((3, ())), [0, 1, 2])
        self.assertEqual(ends_of((2, ((0, 1), (1, 0)))), [])

    def test_rising_lists_of_just_these(self):
        for web in small_webs() + great_webs():
            for place in range(web[0]):
                self.assertEqual(leads_to(web, place), sorted(b for a, b in web[1] if a == place))
                self.assertEqual(led_from(web, place), sorted(a for a, b in web[1] if b == place))
            starts = {a for a, b in web[1]}
            self.assertEqual(ends_of(web), [place for place in range(web[0]) if place not in starts])

    def test_answers_are_lists(self):
        for answer in (leads_to(DOWN, 0), led_from(DOWN, 0), ends_of(DOWN)):
            self.assertIs(type(answer), list)

    def test_no_place(self):
        for web in ((1, ()), DOWN, (40, PAIRS[:200])):
            for ask in (leads_to, led_from):
                for thing in no_places(web):
                    with self.subTest(web=web[0], ask=ask.__name__, thing=thing):
                        with self.assertRaises(NoPlace) as caught:
                            ask(web, thing)
                        self.assertIs(type(caught.exception), NoPlace)

    def test_turned_web(self):
        self.assertEqual(turned_web(DOWN), (4, ((0, 1), (0, 2), (1, 2), (1, 3))))
        self.assertEqual(turned_web((1, ())), (1, ()))

    def test_turned_twice_is_as_it_was(self):
        for web in small_webs() + great_webs():
            turned = turned_web(web)
            self.assertIs(web_good(turned), True)
            self.assertEqual({(b, a) for a, b in web[1]}, set(turned[1]))
            self.assertEqual(turned_web(turned), web)

    def test_among_web(self):
        self.assertEqual(among_web(DOWN, (1, 3)), (2, ((1, 0),)))
        self.assertEqual(among_web(DOWN, (0, 3)), (2, ()))
        self.assertEqual(among_web(RINGED, (2, 3, 4)), (3, ((0, 1), (1, 2), (2, 1))))
        self.assertEqual(among_web(RINGED, (5,)), (1, ()))

    def test_among_web_is_numbered_anew_in_order(self):
        drawn = random.Random(3)
        for web in small_webs()[::3] + great_webs():
            places = tuple(sorted(drawn.sample(range(web[0]), drawn.randint(1, web[0]))))
            told = among_web(web, places)
            self.assertIs(web_good(told), True)
            self.assertEqual(told[0], len(places))
            back = {(places[a], places[b]) for a, b in told[1]}
            self.assertEqual(back, {(a, b) for a, b in web[1] if a in places and b in places})
            self.assertEqual(among_web(web, tuple(range(web[0]))), web)


class RingsAndOrdersTest(unittest.TestCase):
    """[1.4]"""

    def test_rings(self):
        for ring in ((0, 1, 2), (1, 2, 0), (2, 0, 1), (3, 4), (4, 3)):
            self.assertIs(ring_good(RINGED, ring), True)

    def test_what_is_no_ring(self):
        for thing in (
            (0,), (), (0, 1), (0, 2, 1), (2, 1, 0), (3, 4, 3, 4), (0, 1, 2, 0), (0, 1, 2, 0, 1, 2), (2, 3), (5,), (5, 5),
            [0, 1, 2], (False, 1, 2), (0, True, 2), ("0", 1, 2), (3, 4, 6), (-3, 4), ((0, 1), (1, 2), (2, 0)), (3, [4]),
        ):
            with self.subTest(thing=thing):
                self.assertIs(ring_good(RINGED, thing), False)

    def test_orders(self):
        for order in ((0, 1, 2, 3), (0, 1, 3, 2)):
            self.assertIs(order_good(DOWN, order), True)
        self.assertIs(order_good((1, ()), (0,)), True)

    def test_what_is_no_order(self):
        for thing in (
            (), (0,), (0, 1, 2), (0, 1, 2, 2), (0, 1, 2, 3, 3), (1, 0, 2, 3), (0, 2, 1, 3), (3, 2, 1, 0), [0, 1, 2, 3],
            (False, 1, 2, 3), (0, True, 2, 3), (0, 1, 2, "3"), (0, 1, 2, 4), (0, 1, 2, -1), (0, 1, 2, 3, 4), ([0], 1, 2, 3),
        ):
            with self.subTest(thing=thing):
                self.assertIs(order_good(DOWN, thing), False)

    def test_all_tuples_of_places_of_small_webs(self):
        for web in small_webs()[::2]:
            rings = rings_of(web)
            orders = orders_of(web)
            for count in range(web[0] + 2):
                for thing in itertools.product(range(web[0]), repeat=count):
                    self.assertIs(ring_good(web, thing), thing in rings)
                    self.assertIs(order_good(web, thing), thing in orders)

    def test_whatever(self):
        one = (1, ())
        two = (2, ((0, 1), (1, 0)))
        for thing in whatever():
            with self.subTest(thing=thing):
                self.assertIs(ring_good(two, thing), repr(thing) in ("(0, 1)", "(1, 0)"))
                self.assertIs(ring_good(one, thing), False)
                self.assertIs(order_good(one, thing), repr(thing) == "(0,)")
                self.assertIs(order_good(two, thing), False)
                self.assertIs(order_good((2, ()), thing), repr(thing) in ("(0, 1)", "(1, 0)"))

    def test_the_least_order_or_some_ring(self):
        for web in webs_with(1) + webs_with(2) + webs_with(3) + webs_with(4):
            orders = orders_of(web)
            told = order_of(web)
            self.assertIs(type(told), tuple)
            if orders:
                self.assertEqual(told, ("order", min(orders)))
            else:
                self.assertEqual(told[0], "ring")
                self.assertEqual(len(told), 2)
                self.assertIs(type(told[1]), tuple)
                self.assertIn(told[1], rings_of(web))

    def test_the_least_order_is_not_the_least_depth(self):
        self.assertEqual(order_of((4, ((0, 3), (2, 1)))), ("order", (1, 2, 3, 0)))

    def test_great_webs(self):
        rising = (40, tuple((place, place + 1) for place in range(39)))
        self.assertEqual(order_of(rising), ("order", tuple(range(39, -1, -1))))
        self.assertEqual(order_of(turned_web(rising)), ("order", tuple(range(40))))
        ring = (40, tuple(sorted(rising[1] + ((39, 0),))))
        self.assertEqual(order_of(ring)[0], "ring")
        self.assertEqual(len(order_of(ring)[1]), 40)
        for web in great_webs() + [ring]:
            word, way = order_of(web)
            self.assertIs(order_good(web, way), word == "order")
            self.assertIs(ring_good(web, way), word == "ring")


class GroupsTest(unittest.TestCase):
    """[1.5]"""

    def test_an_ordinary_web(self):
        self.assertEqual(groups_of(RINGED), [(0, 1, 2), (3, 4), (5,)])
        self.assertEqual([comes_of(RINGED, place) for place in (0, 3, 5)], [(0, 1, 2, 3, 4), (3, 4), (5,)])
        self.assertEqual(groups_of(DOWN), [(0,), (1,), (2,), (3,)])
        self.assertEqual(groups_of((5, ((0, 4), (1, 3), (3, 1), (4, 0)))), [(0, 4), (1, 3), (2,)])

    def test_small_and_great_webs(self):
        for web in small_webs() + great_webs():
            reach = reach_of(web)
            groups = {tuple(b for b in sorted(reach[a]) if a in reach[b]) for a in range(web[0])}
            self.assertEqual(groups_of(web), sorted(groups))
            for place in range(web[0]):
                self.assertEqual(comes_of(web, place), tuple(sorted(reach[place])))

    def test_kinds(self):
        self.assertIs(type(groups_of(RINGED)), list)
        self.assertIs(type(groups_of(RINGED)[0]), tuple)
        self.assertIs(type(comes_of(RINGED, 0)), tuple)

    def test_no_place(self):
        for web in ((1, ()), RINGED, (40, PAIRS[:200])):
            for thing in no_places(web):
                with self.subTest(web=web[0], thing=thing):
                    with self.assertRaises(NoPlace) as caught:
                        comes_of(web, thing)
                    self.assertIs(type(caught.exception), NoPlace)


if __name__ == "__main__":
    unittest.main()
