"""[2.1] to [2.5]: holdsets.holds."""

import random
import unittest

from holdsets.errors import NoHold, NoPlace
from holdsets.holds import half_good, halves_joined, hold_good, left_by, put_on, why_not, why_not_good
from holdsets.webs import among_web
from tests.helper import (
    great_webs, is_hold, is_lost, is_rising_places, is_tied, leads_into, small_webs, subsets, whatever,
)

# A ring of four, and a place that leads to nothing, led to by one of the ring.
SQUARE = (5, ((0, 1), (1, 2), (2, 3), (3, 0), (3, 4)))
PATH = (4, ((0, 1), (1, 2), (2, 3)))
THREE = (3, ((0, 1), (1, 2), (2, 0)))


def is_half(web, places):
    led = {b for a, b in web[1] if a in places}
    return not is_tied(web, places) and all(leads_into(web, place, places) for place in led)


def faults_of(web, places):
    """Tell all faults of the places, those of arrows ahead, each kind in order."""
    tied = [("tied", a, b) for a, b in web[1] if a in places and b in places]
    return tied + [("lost", place) for place in range(web[0]) if is_lost(web, places, place)]


def some_sets(web):
    """Tell all sets of places of a small web, some of a great one."""
    if web[0] < 6:
        return subsets(range(web[0]))
    drawn = random.Random(4)
    sizes = (0, 1, 2, 3, web[0] // 4, web[0] // 2, web[0])
    return [tuple(sorted(drawn.sample(range(web[0]), size))) for size in sizes]


class HoldsTestCase(unittest.TestCase):
    def refused(self, kind, ask, *things):
        with self.subTest(ask=ask.__name__, things=things):
            with self.assertRaises(kind) as caught:
                ask(*things)
            self.assertIs(type(caught.exception), kind)


class HoldGoodTest(HoldsTestCase):
    """[2.1]"""

    def test_holds(self):
        for web, hold in ((SQUARE, (0, 2, 4)), (PATH, (1, 3)), ((1, ()), (0,)), ((2, ((1, 0),)), (0,))):
            with self.subTest(web=web, hold=hold):
                self.assertIs(hold_good(web, hold), True)

    def test_what_is_tied_or_leaves_a_place(self):
        for places in ((0, 2), (1, 4), (4,), (0, 1, 4), (0, 2, 3, 4), (3,)):
            with self.subTest(places=places):
                self.assertIs(hold_good(SQUARE, places), False)

    def test_a_web_without_holds_and_one_with_two(self):
        self.assertEqual([some for some in subsets(range(3)) if hold_good(THREE, some)], [])
        both = (2, ((0, 1), (1, 0)))
        self.assertEqual([some for some in subsets(range(2)) if hold_good(both, some)], [(0,), (1,)])

    def test_none_and_all_places(self):
        for web in small_webs() + great_webs():
            self.assertIs(hold_good(web, ()), False)
            self.assertIs(hold_good(web, tuple(range(web[0]))), web[1] == ())

    def test_all_sets_of_places(self):
        for web in small_webs() + great_webs():
            for places in some_sets(web):
                self.assertIs(hold_good(web, places), is_hold(web, places))

    def test_the_arrow_s_way_counts(self):
        web = (2, ((0, 1),))
        self.assertIs(hold_good(web, (1,)), True)
        self.assertIs(hold_good(web, (0,)), False)

    def test_what_is_no_rising_tuple_of_places(self):
        for thing in (
            (3, 1), [1, 3], (1, 1, 3), (1, 3, 3), (True, 3), (1, 3, 4), (-1, 1, 3), ("1", 3), ((1, 3),), {1: 3}, (1, None),
            (1, [3]), "13", 1, None, True,
        ):
            with self.subTest(thing=thing):
                self.assertIs(hold_good(PATH, thing), False)
        self.assertIs(hold_good((1, ()), (False,)), False)
        self.assertIs(hold_good((2, ()), (0, True)), False)
        self.assertIs(hold_good((2, ()), (1, 0)), False)
        self.assertIs(hold_good((2, ()), [0, 1]), False)

    def test_whatever(self):
        for web in ((1, ()), (2, ()), (2, ((1, 0),)), SQUARE, THREE):
            for thing in whatever():
                with self.subTest(web=web, thing=thing):
                    self.assertIs(hold_good(web, thing), is_rising_places(web, thing) and is_hold(web, thing))


class WhyNotTest(HoldsTestCase):
    """[2.2]"""

    def test_the_first_arrow(self):
        self.assertEqual(why_not(SQUARE, (0, 1, 2)), ("tied", 0, 1))
        self.assertEqual(why_not(SQUARE, (2, 3, 4)), ("tied", 2, 3))
        self.assertEqual(why_not(SQUARE, (3, 4)), ("tied", 3, 4))
        self.assertEqual(why_not((3, ((1, 0), (1, 2), (2, 1))), (0, 1, 2)), ("tied", 1, 0))

    def test_an_arrow_goes_ahead_of_a_place(self):
        self.assertEqual(why_not(PATH, (2, 3)), ("tied", 2, 3))

    def test_the_first_place(self):
        self.assertEqual(why_not(SQUARE, (1,)), ("lost", 2))
        self.assertEqual(why_not(SQUARE, ()), ("lost", 0))
        self.assertEqual(why_not(SQUARE, (0, 2)), ("lost", 4))

    def test_none_where_they_are_a_hold(self):
        self.assertIs(why_not(SQUARE, (0, 2, 4)), None)
        self.assertIs(why_not((3, ()), (0, 1, 2)), None)

    def test_all_sets_of_places(self):
        for web in small_webs() + great_webs():
            for places in some_sets(web):
                told = why_not(web, places)
                self.assertEqual(told, (faults_of(web, places) + [None])[0])
                self.assertEqual(told is not None, why_not_good(web, places, told))

    def test_each_fault_is_good_and_nothing_else(self):
        for web in small_webs()[::5] + [SQUARE, PATH, THREE]:
            ends = range(-1, web[0] + 1)
            things = [("tied", a, b) for a in ends for b in ends] + [("lost", a) for a in ends] + [None]
            for places in some_sets(web):
                faults = faults_of(web, places)
                for thing in things:
                    self.assertIs(why_not_good(web, places, thing), thing in faults)

    def test_faults_that_are_not_the_first(self):
        self.assertIs(why_not_good(SQUARE, (0, 1, 2), ("tied", 1, 2)), True)
        self.assertIs(why_not_good(SQUARE, (0, 1), ("lost", 2)), True)
        self.assertIs(why_not_good(SQUARE, (1,), ("lost", 4)), True)

    def test_what_is_no_fault(self):
        for thing in (
            ("tied", 1, 0), ("tied", 2, 3), ("lost", 0), ("lost", 3), ("tied", False, 1), ("tied", 0, True), ["tied", 0, 1],
            ("tied", (0, 1)), ("tied", 0), ("tied",), ("tied", 0, 1, 2), ("lost",), ("lost", 2, 2), ("lost", "2"), ["lost", 2],
            ("lost", (2,)), ("lost", 0, 1), ("tied", 2), ("lost", 4, None), ("Tied", 0, 1), ("", 2), (0, 1), (0, 0, 1), (2,),
            (None, 2), ([], 2), ({}, 0, 1), ((), 2), (), "tied", None, True, "lost 2", ("lost", [2]), ("tied", [0], [1]),
        ):
            with self.subTest(thing=thing):
                self.assertIs(why_not_good(SQUARE, (0, 1), thing), False)
        self.assertIs(why_not_good((2, ()), (), ("lost", True)), False)
        self.assertIs(why_not_good((2, ()), (), ("lost", False)), False)
        self.assertIs(why_not_good((2, ()), (), ("lost", 1)), True)

    def test_whatever_for_the_fault(self):
        for thing in whatever():
            with self.subTest(thing=thing):
                self.assertIs(why_not_good(SQUARE, (0, 1), thing), False)
                self.assertIs(why_not_good(SQUARE, (0, 2, 4), thing), False)

    def test_whatever_for_the_places(self):
        for web in ((1, ()), PATH):
            for thing in whatever():
                if not is_rising_places(web, thing):
                    self.refused(NoPlace, why_not, web, thing)
                    self.refused(NoPlace, why_not_good, web, thing, ("lost", 0))
                    self.refused(NoPlace, why_not_good, web, thing, thing)

    def test_no_places(self):
        for thing in ((1, 0), (0, 0), [0], [], (True,), (4,), (-1,), (0, 1, 4), ("0",), 0, None, (0, (1,)), (0, [1])):
            self.refused(NoPlace, why_not, PATH, thing)
            self.refused(NoPlace, why_not_good, PATH, thing, None)
            self.refused(NoPlace, why_not_good, PATH, thing, ("lost", 3))


class HalvesTest(HoldsTestCase):
    """[2.3]"""

    def test_half_holds(self):
        for half in ((), (4,), (0, 2), (0, 2, 4), (2, 4)):
            with self.subTest(half=half):
                self.assertIs(half_good(SQUARE, half), True)
        self.assertIs(half_good(PATH, (3,)), True)
        self.assertIs(half_good(PATH, (1, 3)), True)

    def test_what_is_no_half_hold(self):
        for thing in ((0,), (1,), (3,), (0, 1), (3, 4), (2, 0), [4], (True,), (5,), ("4",), (4, 4), (-1,), None, 4, [], {}):
            with self.subTest(thing=thing):
                self.assertIs(half_good(SQUARE, thing), False)
        self.assertIs(half_good((1, ()), (False,)), False)

    def test_none_of_the_places(self):
        for web in small_webs() + great_webs():
            self.assertIs(half_good(web, ()), True)

    def test_all_sets_of_places(self):
        for web in small_webs() + great_webs():
            for places in some_sets(web):
                self.assertIs(half_good(web, places), is_half(web, places))

    def test_whatever(self):
        for web in ((1, ()), (2, ()), (2, ((1, 0),)), SQUARE, THREE):
            for thing in whatever():
                with self.subTest(web=web, thing=thing):
                    self.assertIs(half_good(web, thing), is_rising_places(web, thing) and is_half(web, thing))

    def test_joined(self):
        self.assertEqual(halves_joined(SQUARE, (0, 2), (4,)), (0, 2, 4))
        self.assertEqual(halves_joined(SQUARE, (4,), (0, 2)), (0, 2, 4))
        self.assertEqual(halves_joined(SQUARE, (0, 2), (0, 2)), (0, 2))
        self.assertEqual(halves_joined(SQUARE, (), ()), ())
        self.assertEqual(halves_joined(SQUARE, (0, 2, 4), (4,)), (0, 2, 4))

    def test_an_arrow_between_them_either_way(self):
        self.assertIs(halves_joined((2, ((0, 1), (1, 0))), (0,), (1,)), None)
        led = (4, ((0, 1), (1, 0), (1, 2), (2, 1), (2, 3), (3, 2)))
        self.assertIs(halves_joined(led, (1,), (0, 2)), None)
        self.assertIs(halves_joined(led, (0, 2), (1,)), None)
        ring = (4, ((0, 1), (1, 2), (2, 3), (3, 0)))
        self.assertIs(halves_joined(ring, (0, 2), (1, 3)), None)
        self.assertIs(halves_joined(ring, (1, 3), (0, 2)), None)

    def test_an_arrow_elsewhere_does_not_part_them(self):
        web = (4, ((0, 1), (1, 0), (1, 2), (2, 3), (3, 2)))
        self.assertEqual(halves_joined(web, (0,), (2,)), (0, 2))
        self.assertEqual(halves_joined(web, (3,), (0,)), (0, 3))

    def test_joined_places_rise_in_great_webs(self):
        self.assertEqual(halves_joined((40, ()), (1, 33), (8, 32)), (1, 8, 32, 33))
        self.assertEqual(halves_joined((40, ()), (8, 32, 39), (0, 1, 8)), (0, 1, 8, 32, 39))

    def test_all_pairs_of_half_holds(self):
        for web in small_webs()[::2] + [SQUARE]:
            halves = [some for some in subsets(range(web[0])) if is_half(web, some)]
            for one in halves:
                for other in halves:
                    both = tuple(sorted(set(one) | set(other)))
                    between = any((a, b) in web[1] or (b, a) in web[1] for a in one for b in other)
                    told = halves_joined(web, one, other)
                    self.assertEqual(told, None if between else both)
                    self.assertEqual(told is not None, half_good(web, told))

    def test_no_half_hold_joined(self):
        for thing in whatever() + [(0,), (0, 1), [4], (2, 0), (4, 4)]:
            if not (is_rising_places(SQUARE, thing) and is_half(SQUARE, thing)):
                self.refused(NoHold, halves_joined, SQUARE, thing, (4,))
                self.refused(NoHold, halves_joined, SQUARE, (4,), thing)
                self.refused(NoHold, halves_joined, SQUARE, thing, thing)


class LeftTest(HoldsTestCase):
    """[2.4]"""

    def test_left_by(self):
        self.assertEqual(left_by(SQUARE, ()), (0, 1, 2, 3, 4))
        self.assertEqual(left_by(SQUARE, (4,)), (0, 1, 2))
        self.assertEqual(left_by(SQUARE, (0, 2)), (4,))
        self.assertEqual(left_by(SQUARE, (0, 2, 4)), ())
        self.assertEqual(left_by(PATH, (3,)), (0, 1))

    def test_put_on(self):
        self.assertEqual(put_on(SQUARE, (4,), (0, 2)), (0, 2, 4))
        self.assertEqual(put_on(SQUARE, (0, 2), (0,)), (0, 2, 4))
        self.assertEqual(put_on(PATH, (3,), (1,)), (1, 3))
        self.assertEqual(put_on(PATH, (), (1, 3)), (1, 3))

    def test_great_webs(self):
        path = (40, tuple((place, place + 1) for place in range(39)))
        self.assertEqual(left_by(path, (37, 39)), tuple(range(36)))
        self.assertEqual(put_on(path, (37, 39), tuple(range(1, 36, 2))), tuple(range(1, 40, 2)))
        self.assertEqual(put_on((40, ()), (8, 32), tuple(range(38))), tuple(range(40)))

    def test_all_half_holds_and_holds_put_on(self):
        for web in small_webs()[::2] + [SQUARE, PATH]:
            for half in subsets(range(web[0])):
                if not is_half(web, half):
                    self.refused(NoHold, left_by, web, half)
                    self.refused(NoHold, put_on, web, half, (0,))
                    continue
                left = tuple(place for place in range(web[0]) if is_lost(web, half, place))
                self.assertEqual(left_by(web, half), left)
                self.put_each(web, half, left)

    def put_each(self, web, half, left):
        for hold in subsets(range(web[0])):
            if left != () and hold_good(among_web(web, left), hold):
                whole = tuple(sorted(set(half) | {left[number] for number in hold}))
                self.assertEqual(put_on(web, half, hold), whole)
            else:
                self.refused(NoHold, put_on, web, half, hold)

    def test_no_half_hold(self):
        for thing in whatever() + [(0,), (0, 1), [4], (2, 0), (4, 4), (3,)]:
            if not (is_rising_places(SQUARE, thing) and is_half(SQUARE, thing)):
                self.refused(NoHold, left_by, SQUARE, thing)
                self.refused(NoHold, put_on, SQUARE, thing, (0,))
                self.refused(NoHold, put_on, SQUARE, thing, thing)

    def test_a_half_hold_that_leaves_no_place(self):
        for hold in [(), (0,), (0, 2, 4)] + whatever():
            self.refused(NoHold, put_on, SQUARE, (0, 2, 4), hold)

    def test_no_hold_of_what_is_left(self):
        for thing in whatever() + [(), (0,), (1,), (0, 1), (2,), (2, 0), [0, 2], (False, 2), (0, 2, 3), (0, 2, 4), (1, 2)]:
            if repr(thing) != "(0, 2)":
                self.refused(NoHold, put_on, SQUARE, (4,), thing)
        self.refused(NoHold, put_on, SQUARE, (0, 2), (4,))
        self.refused(NoHold, put_on, SQUARE, (0, 2), (False,))
        self.refused(NoHold, put_on, THREE, (), (0,))


class TogetherTest(HoldsTestCase):
    """[2.5]"""

    def test_each_hold_is_a_half_hold_that_leaves_no_place(self):
        for web in small_webs():
            for places in subsets(range(web[0])):
                whole = half_good(web, places) and left_by(web, places) == ()
                self.assertIs(hold_good(web, places), whole)

    def test_none_is_a_half_hold_that_leaves_all(self):
        for web in small_webs() + great_webs():
            self.assertIs(half_good(web, ()), True)
            self.assertEqual(left_by(web, ()), tuple(range(web[0])))

    def test_holds_are_just_what_has_no_fault(self):
        for web in small_webs():
            for places in subsets(range(web[0])):
                self.assertIs(hold_good(web, places), why_not(web, places) is None)
                self.assertIs(hold_good(web, places), is_hold(web, places))

    def test_a_hold_put_on_a_half_hold_is_a_hold(self):
        for web in small_webs() + [SQUARE]:
            for half in subsets(range(web[0])):
                left = left_by(web, half) if half_good(web, half) else ()
                for hold in subsets(range(len(left))):
                    if left != () and hold_good(among_web(web, left), hold):
                        self.assertIs(hold_good(web, put_on(web, half, hold)), True)
                        self.assertIs(is_hold(web, put_on(web, half, hold)), True)


if __name__ == "__main__":
    unittest.main()
