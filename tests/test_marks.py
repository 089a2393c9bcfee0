"""[3.1] to [3.4]: holdsets.marks."""

import itertools
import random
import unittest

from holdsets.errors import Ringed, TooGreat
from holdsets.holds import hold_good
from holdsets.marks import depths_of, grown_web, hold_of, marks_good, marks_of, one_hold
from holdsets.webs import among_web, comes_of, leads_to, web_good
from tests.helper import (
    great_webs, holds_by_trial, is_hold, is_ring, pairs_of, ringless_webs, rings_of, small_webs, subsets, webs_with,
    whatever,
)

PATH = (4, ((0, 1), (1, 2), (2, 3)))
TWO = (2, ((0, 1), (1, 0)))
THREE = (3, ((0, 1), (1, 2), (2, 0)))
# From 0 two ways go on to 4, of one arrow and of three.
WAYS = (6, ((0, 2), (0, 4), (2, 3), (3, 4), (5, 0)))


def is_truth(thing):
    return repr(thing) in ("True", "False")


def is_marks(web, thing):
    """Tell it by the words of the document, place by place."""
    if not isinstance(thing, tuple) or len(thing) != web[0] or not all(is_truth(truth) for truth in thing):
        return False
    return all(thing[place] == all(not thing[b] for a, b in web[1] if a == place) for place in range(web[0]))


def small_ringless():
    return [web for web in small_webs() if not rings_of(web)]


def ringed_webs():
    """Webs that have a ring, small and great ones."""
    webs = [web for web in small_webs() if rings_of(web)]
    ring = tuple(sorted((place, (place + 7) % 40) for place in range(40)))
    tail = tuple((place, place + 1) for place in range(39)) + ((39, 38),)
    return webs + [(40, ring), (40, tail), (40, tuple(pairs_of(40)[:200]))]


def depth_by_ways(web, place):
    """Tell how many arrows the longest way from the place has, by going all ways."""
    return max([1 + depth_by_ways(web, b) for a, b in web[1] if a == place], default=0)


def hold_by_layers(web):
    """Tell the one hold by taking what leads nowhere, and taking away what leads there, over and over."""
    rest = set(range(web[0]))
    hold = set()
    while rest:
        ends = {place for place in rest if not any(a == place and b in rest for a, b in web[1])}
        hold |= ends
        rest -= ends | {a for a, b in web[1] if b in ends}
    return tuple(sorted(hold))


class MarksTest(unittest.TestCase):
    """[3.1]"""

    def test_marks(self):
        for web, marks in (
            (PATH, (False, True, False, True)), (TWO, (True, False)), (TWO, (False, True)), ((1, ()), (True,)),
            ((2, ((1, 0),)), (True, False)), ((40, ()), (True,) * 40),
        ):
            with self.subTest(web=web, marks=marks):
                self.assertIs(marks_good(web, marks), True)

    def test_truths_that_are_no_marks(self):
        for web, truths in (
            (PATH, (True, False, False, True)), (PATH, (True, True, False, True)), (PATH, (False,) * 4), (TWO, (True, True)),
            (TWO, (False, False)), ((1, ()), (False,)), ((2, ((1, 0),)), (False, True)), ((40, ()), (True,) * 39 + (False,)),
        ):
            with self.subTest(web=web, truths=truths):
                self.assertIs(marks_good(web, truths), False)

    def test_numbers_for_truths(self):
        for thing in ((0, 1, 0, 1), (False, 1, False, True), (0, True, False, True), (False, True, False, 1), (0, 1, False, 1)):
            with self.subTest(thing=thing):
                self.assertIs(marks_good(PATH, thing), False)
        self.assertIs(marks_good((1, ()), (1,)), False)
        self.assertIs(marks_good(TWO, (1, 0)), False)

    def test_other_things_for_truths(self):
        for thing in ((None, True, None, True), ("", True, "", True), ((), True, (), True), ("False", "True", "False", "True"),
                      ([], [0], [], [0]), (False, {0: 0}, False, True), (False, True, False, (True,))):
            with self.subTest(thing=thing):
                self.assertIs(marks_good(PATH, thing), False)

    def test_other_things_for_the_tuple(self):
        for thing in ([False, True, False, True], {0: False, 1: True, 2: False, 3: True}, (1, 3), ((False, True, False, True),),
                      "FTFT", True, None, 10):
            with self.subTest(thing=thing):
                self.assertIs(marks_good(PATH, thing), False)

    def test_one_truth_more_or_fewer(self):
        for web in small_webs():
            for hold in holds_by_trial(web):
                marks = marks_of(web, hold)
                for thing in (marks[:-1], marks[1:], marks + (False,), marks + (True,), (False,) + marks, (True,) + marks, ()):
                    self.assertIs(marks_good(web, thing), is_marks(web, thing))
                    self.assertIs(marks_good(web, thing) and len(thing) != web[0], False)

    def test_all_truths(self):
        for web in small_webs():
            for truths in itertools.product((True, False), repeat=web[0]):
                self.assertIs(marks_good(web, truths), is_marks(web, truths))

    def test_as_many_marks_as_holds(self):
        for web in small_webs():
            marks = [truths for truths in itertools.product((True, False), repeat=web[0]) if marks_good(web, truths)]
            self.assertEqual(len(marks), len(holds_by_trial(web)))
            self.assertEqual(sorted(hold_of(web, truths) for truths in marks), holds_by_trial(web))

    def test_whatever(self):
        for web in ((1, ()), (2, ((1, 0),)), TWO, (3, ((0, 2), (1, 2))), PATH):
            for thing in whatever():
                with self.subTest(web=web, thing=thing):
                    self.assertIs(marks_good(web, thing), is_marks(web, thing))

    def test_marks_and_holds_lead_back_to_one_another(self):
        for web in small_webs():
            for hold in holds_by_trial(web):
                marks = marks_of(web, hold)
                self.assertIs(marks_good(web, marks), True)
                self.assertEqual(repr(hold_of(web, marks)), repr(hold))
                self.assertEqual(repr(marks_of(web, hold_of(web, marks))), repr(marks))

    def test_marks_told(self):
        self.assertEqual(repr(marks_of(PATH, (1, 3))), "(False, True, False, True)")
        self.assertEqual(repr(marks_of((2, ()), (0, 1))), "(True, True)")
        self.assertEqual(repr(hold_of(PATH, (False, True, False, True))), "(1, 3)")
        self.assertEqual(repr(hold_of((2, ()), (True, True))), "(0, 1)")

    def test_great_webs(self):
        for web in ringless_webs():
            hold = hold_by_layers(web)
            marks = marks_of(web, hold)
            self.assertIs(marks_good(web, marks), True)
            self.assertEqual(hold_of(web, marks), hold)
            for place in range(web[0]):
                self.assertIs(marks_good(web, marks[:place] + (not marks[place],) + marks[place + 1:]), False)


class RinglessTest(unittest.TestCase):
    """[3.2]"""

    def ringed(self, ask, web):
        with self.assertRaises(Ringed) as caught:
            ask(web)
        self.assertIs(type(caught.exception), Ringed)
        self.assertIsInstance(caught.exception.ring, tuple)
        self.assertTrue(is_ring(web, caught.exception.ring))
        self.assertEqual(len(set(caught.exception.ring)), len(caught.exception.ring))

    def test_one_hold(self):
        self.assertEqual(one_hold(PATH), (1, 3))
        self.assertEqual(one_hold(WAYS), (1, 2, 4, 5))
        self.assertEqual(one_hold((1, ())), (0,))
        self.assertEqual(one_hold((40, ())), tuple(range(40)))
        self.assertEqual(one_hold((40, tuple((0, place) for place in range(1, 40)))), tuple(range(1, 40)))

    def test_the_only_hold_of_small_webs(self):
        for web in small_ringless() + webs_with(4, 7):
            if not rings_of(web):
                self.assertEqual([one_hold(web)], holds_by_trial(web))

    def test_one_hold_of_one_to_forty_places(self):
        self.assertEqual({web[0] for web in ringless_webs()}, set(range(1, 41)))
        for web in ringless_webs():
            hold = one_hold(web)
            self.assertTrue(is_hold(web, hold))
            self.assertEqual(repr(hold), repr(hold_by_layers(web)))

    def test_long_ways_either_way(self):
        down = (40, tuple((place, place - 1) for place in range(1, 40)))
        up = (40, tuple((place, place + 1) for place in range(39)))
        self.assertEqual(one_hold(down), tuple(range(0, 40, 2)))
        self.assertEqual(one_hold(up), tuple(range(1, 40, 2)))
        self.assertEqual(depths_of(down), list(range(40)))
        self.assertEqual(depths_of(up), list(range(39, -1, -1)))

    def test_ringed(self):
        for web in ringed_webs() + [TWO, THREE, (3, ((0, 1), (1, 2), (2, 1)))]:
            self.ringed(one_hold, web)
            self.ringed(depths_of, web)

    def test_depths(self):
        self.assertEqual(depths_of(WAYS), [3, 0, 2, 1, 0, 4])
        self.assertEqual(depths_of(PATH), [3, 2, 1, 0])
        self.assertEqual(depths_of((1, ())), [0])
        self.assertEqual(depths_of((40, ())), [0] * 40)
        self.assertIsInstance(depths_of(PATH), list)

    def test_the_longest_way_counts(self):
        short_first = (4, ((0, 1), (0, 2), (2, 3), (3, 1)))
        short_last = (4, ((0, 1), (0, 3), (1, 2), (2, 3)))
        self.assertEqual(depths_of(short_first), [3, 0, 2, 1])
        self.assertEqual(depths_of(short_last), [3, 2, 1, 0])

    def test_depths_of_many_webs(self):
        for web in small_ringless() + [web for web in ringless_webs() if len(web[1]) <= web[0] or web[0] < 12]:
            depths = depths_of(web)
            self.assertEqual(repr(depths), repr([depth_by_ways(web, place) for place in range(web[0])]))

    def test_depths_of_dense_webs(self):
        for web in ringless_webs():
            depths = depths_of(web)
            for place in range(web[0]):
                beneath = [depths[b] for b in leads_to(web, place)]
                self.assertEqual(depths[place], 1 + max(beneath) if beneath else 0)


class GrownTest(unittest.TestCase):
    """[3.3]"""

    def too_great(self, many, most, web, places):
        with self.assertRaises(TooGreat) as caught:
            grown_web(web, places)
        self.assertIs(type(caught.exception), TooGreat)
        self.assertEqual(repr((caught.exception.many, caught.exception.most)), repr((many, most)))

    def test_grown(self):
        self.assertEqual(grown_web(PATH, (0, 3)), (5, ((0, 1), (1, 2), (2, 3), (4, 0), (4, 3))))
        self.assertEqual(grown_web((1, ()), (0,)), (2, ((1, 0),)))
        self.assertEqual(grown_web(THREE, (0, 1, 2)), (4, ((0, 1), (1, 2), (2, 0), (3, 0), (3, 1), (3, 2))))

    def test_grown_by_a_place_that_leads_nowhere(self):
        self.assertEqual(grown_web(PATH, ()), (5, PATH[1]))
        self.assertEqual(grown_web((1, ()), ()), (2, ()))

    def test_all_small_webs(self):
        for web in small_webs():
            for places in subsets(range(web[0])):
                grown = grown_web(web, places)
                self.assertIs(web_good(grown), True)
                self.assertEqual(grown, (web[0] + 1, tuple(sorted(web[1] + tuple((web[0], b) for b in places)))))

    def test_just_forty_places(self):
        self.assertEqual(grown_web((39, ()), (0, 38)), (40, ((39, 0), (39, 38))))
        self.assertEqual(grown_web((39, ()), ()), (40, ()))

    def test_too_many_places(self):
        self.too_great(41, 40, (40, ()), ())
        self.too_great(41, 40, (40, ()), (0, 39))
        self.too_great(41, 40, (40, tuple(pairs_of(40)[:199])), (0,))

    def test_just_two_hundred_arrows(self):
        web = (30, tuple(pairs_of(30)[:190]))
        grown = grown_web(web, tuple(range(10)))
        self.assertEqual(len(grown[1]), 200)
        self.assertIs(web_good(grown), True)
        full = (39, tuple(pairs_of(39)[:200]))
        self.assertEqual(grown_web(full, ()), (40, full[1]))

    def test_too_many_arrows(self):
        web = (30, tuple(pairs_of(30)[:190]))
        self.too_great(201, 200, web, tuple(range(11)))
        self.too_great(220, 200, web, tuple(range(30)))
        self.too_great(201, 200, (39, tuple(pairs_of(39)[:200])), (7,))
        self.too_great(239, 200, (39, tuple(pairs_of(39)[:200])), tuple(range(39)))

    def test_places_go_ahead_of_arrows(self):
        self.too_great(41, 40, (40, tuple(pairs_of(40)[:200])), (0,))
        self.too_great(41, 40, (40, tuple(pairs_of(40)[:200])), tuple(range(40)))

    def test_what_is_refused_changes_nothing(self):
        web = (40, tuple(pairs_of(40)[:200]))
        self.too_great(41, 40, web, (0,))
        self.assertEqual(web, (40, tuple(pairs_of(40)[:200])))


class SoTest(unittest.TestCase):
    """[3.4]"""

    def webs(self):
        return small_ringless() + ringless_webs()

    def test_the_hold_among_the_places_that_come_of_one(self):
        for web in self.webs():
            hold = one_hold(web)
            for place in range(web[0]):
                some = comes_of(web, place)
                within = tuple(some[number] for number in one_hold(among_web(web, some)))
                self.assertEqual(within, tuple(other for other in some if other in hold))

    def test_the_hold_of_a_grown_web(self):
        drawn = random.Random(5)
        for web in self.webs():
            if web[0] == 40:
                continue
            hold = one_hold(web)
            more = subsets(range(web[0])) if web[0] < 5 else [(), hold[:1], tuple(sorted(drawn.sample(range(web[0]), 4)))]
            outside = tuple(place for place in range(web[0]) if place not in hold)
            for places in more + [outside]:
                if len(web[1]) + len(places) <= 200:
                    grown = hold if set(places) & set(hold) else hold + (web[0],)
                    self.assertEqual(one_hold(grown_web(web, places)), grown)

    def test_each_place_of_depth_0_is_of_the_hold(self):
        for web in self.webs():
            hold = one_hold(web)
            ends = [place for place, depth in enumerate(depths_of(web)) if depth == 0]
            self.assertEqual(ends, [place for place in range(web[0]) if not leads_to(web, place)])
            self.assertTrue(set(ends) <= set(hold))

    def test_webs_without_rings_have_just_one_hold(self):
        for web in small_ringless():
            self.assertEqual(len(holds_by_trial(web)), 1)
            self.assertIs(hold_good(web, one_hold(web)), True)

    def test_great_webs_are_answered_or_ringed(self):
        for web in great_webs():
            try:
                self.assertTrue(is_hold(web, one_hold(web)))
            except Ringed as refusal:
                self.assertTrue(is_ring(web, refusal.ring))


if __name__ == "__main__":
    unittest.main()
