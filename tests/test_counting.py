"""[4.1] to [4.3]: holdsets.counting."""

import itertools
import unittest

from holdsets.counting import (
    all_holds, always_in, holds_begun, holds_count, never_in, next_hold, next_marks, nth_hold, rank_of,
)
from holdsets.errors import NoHold, NoNumber, NoPlace, TooGreat
from tests.helper import (
    beginnings_of, counted_webs, holds_by_trial, is_beginning, is_hold, is_rising_places, pairs_of, small_webs, whatever,
)

TWO = (2, ((0, 1), (1, 0)))
THREE = (3, ((0, 1), (1, 2), (2, 0)))
PATH = (4, ((0, 1), (1, 2), (2, 3)))
# Two rings of two, and a place that leads to both.
PAIRS = (5, ((0, 1), (1, 0), (2, 3), (3, 2), (4, 0), (4, 2)))
# Four times three places, each of which leads to the other two: three holds each, 81 in all.
FOURS = (12, tuple((a, b) for a, b in pairs_of(12) if a // 3 == b // 3))
THIRTEEN = (13, tuple((place, place + 1) for place in range(12)))


def marks_by_trial(web):
    return [tuple(place in hold for place in range(web[0])) for hold in holds_by_trial(web)]


class CountingTestCase(unittest.TestCase):
    def refused(self, kind, ask, *things):
        with self.subTest(ask=ask.__name__, things=things):
            with self.assertRaises(kind) as caught:
                ask(*things)
            self.assertIs(type(caught.exception), kind)

    def too_great(self, many, ask, *things):
        with self.subTest(ask=ask.__name__, things=things):
            with self.assertRaises(TooGreat) as caught:
                ask(*things)
            self.assertIs(type(caught.exception), TooGreat)
            self.assertEqual(repr((caught.exception.many, caught.exception.most)), repr((many, 12)))


class AllHoldsTest(CountingTestCase):
    """[4.1]"""

    def test_all_holds(self):
        self.assertEqual(all_holds(TWO), [(0,), (1,)])
        self.assertEqual(all_holds(PATH), [(1, 3)])
        self.assertEqual(all_holds((1, ())), [(0,)])
        self.assertEqual(all_holds(PAIRS), [(0, 2), (0, 3), (1, 2), (1, 3, 4)])

    def test_rising_as_tuples(self):
        longer_ahead = (4, ((0, 1), (1, 0), (2, 0), (2, 1), (3, 1)))
        self.assertEqual(all_holds(longer_ahead), [(0, 3), (1,)])
        self.assertEqual((rank_of(longer_ahead, (0, 3)), next_hold(longer_ahead, (0, 3))), (0, (1,)))
        for web in small_webs() + counted_webs() + [FOURS]:
            told = all_holds(web)
            self.assertIsInstance(told, list)
            self.assertTrue(all(ahead < behind for ahead, behind in zip(told, told[1:])))

    def test_a_web_without_holds(self):
        self.assertEqual(all_holds(THREE), [])
        self.assertEqual(holds_count(THREE), 0)
        self.refused(NoNumber, nth_hold, THREE, 0)

    def test_all_small_webs(self):
        for web in small_webs():
            self.assertEqual(repr(all_holds(web)), repr(holds_by_trial(web)))
            self.assertEqual(repr(holds_count(web)), repr(len(holds_by_trial(web))))

    def test_webs_of_five_to_twelve_places(self):
        self.assertEqual({web[0] for web in counted_webs()}, set(range(5, 13)))
        for web in counted_webs():
            self.assertEqual(repr(all_holds(web)), repr(holds_by_trial(web)))

    def test_the_holds_of_rings(self):
        for many in range(2, 13):
            ring = (many, tuple(sorted((place, (place + 1) % many) for place in range(many))))
            two = [tuple(range(0, many, 2)), tuple(range(1, many, 2))]
            self.assertEqual(all_holds(ring), [] if many % 2 else two)

    def test_many_holds(self):
        self.assertEqual(holds_count(FOURS), 81)
        each = sorted(itertools.product(range(3), range(3, 6), range(6, 9), range(9, 12)))
        self.assertEqual(all_holds(FOURS), each)

    def test_the_greatest_webs(self):
        full = (12, tuple(pairs_of(12)))
        self.assertEqual(all_holds(full), [(place,) for place in range(12)])
        self.assertEqual(all_holds((12, ())), [tuple(range(12))])
        last = (12, tuple((place, 11) for place in range(11)))
        self.assertEqual(all_holds(last), [(11,)])


class NumbersTest(CountingTestCase):
    """[4.1]"""

    def webs(self):
        return small_webs() + counted_webs()[::3] + [PAIRS]

    def test_numbers_and_holds_lead_back_to_one_another(self):
        for web in self.webs():
            holds = holds_by_trial(web)
            for number, hold in enumerate(holds):
                self.assertEqual(repr(nth_hold(web, number)), repr(hold))
                self.assertEqual(repr(rank_of(web, hold)), repr(number))
                self.assertEqual(next_hold(web, hold), (holds + [None])[number + 1])

    def test_the_last_of_many(self):
        self.assertEqual(nth_hold(FOURS, 80), (2, 5, 8, 11))
        self.assertEqual(rank_of(FOURS, (2, 5, 8, 11)), 80)
        self.assertIs(next_hold(FOURS, (2, 5, 8, 11)), None)
        self.assertEqual(next_hold(FOURS, (0, 3, 6, 11)), (0, 3, 7, 9))
        self.refused(NoNumber, nth_hold, FOURS, 81)

    def test_no_number(self):
        for web in (TWO, PATH, THREE, PAIRS, (1, ())):
            many = len(holds_by_trial(web))
            for thing in (-1, many, many + 1, True, False, None, "0", "", (0,), [0], {0: 0}, 10 ** 99, -10 ** 99, ()):
                self.refused(NoNumber, nth_hold, web, thing)

    def test_whatever_for_the_number(self):
        for web in (TWO, PAIRS):
            holds = holds_by_trial(web)
            numbers = [repr(number) for number in range(len(holds))]
            for thing in whatever():
                if repr(thing) in numbers:
                    self.assertEqual(nth_hold(web, thing), holds[thing])
                else:
                    self.refused(NoNumber, nth_hold, web, thing)

    def test_no_hold(self):
        for ask in (rank_of, next_hold):
            for thing in ((0,), (1,), (3, 1), [1, 3], (1, 1, 3), (True, 3), (), (1, 3, 4), (-1, 1, 3), "13", None, 1, {1: 3}):
                self.refused(NoHold, ask, PATH, thing)
            self.refused(NoHold, ask, TWO, (False,))
            self.refused(NoHold, ask, TWO, (True,))
            self.refused(NoHold, ask, TWO, (0, 1))
            self.refused(NoHold, ask, THREE, (0,))

    def test_whatever_for_the_hold(self):
        for web in ((1, ()), (2, ()), TWO, PAIRS, THREE):
            for thing in whatever():
                if is_rising_places(web, thing) and is_hold(web, thing):
                    self.assertEqual(rank_of(web, thing), holds_by_trial(web).index(thing))
                else:
                    self.refused(NoHold, rank_of, web, thing)
                    self.refused(NoHold, next_hold, web, thing)


class TooGreatTest(CountingTestCase):
    """[4.1]"""

    def test_twelve_places_are_answered(self):
        web = (12, THIRTEEN[1][:11])
        hold = (1, 3, 5, 7, 9, 11)
        self.assertEqual(all_holds(web), [hold])
        self.assertEqual(holds_count(web), 1)
        self.assertEqual(nth_hold(web, 0), hold)
        self.assertEqual(rank_of(web, hold), 0)
        self.assertIs(next_hold(web, hold), None)
        self.assertEqual(holds_begun(web, (False,)), 1)
        self.assertEqual(next_marks(web, ()), [False])
        self.assertEqual(always_in(web), hold)
        self.assertEqual(never_in(web), (0, 2, 4, 6, 8, 10))

    def test_thirteen_places_are_refused(self):
        hold = (0, 2, 4, 6, 8, 10, 12)
        for ask in (all_holds, holds_count, always_in, never_in):
            self.too_great(13, ask, THIRTEEN)
            self.too_great(13, ask, (13, ()))
        self.too_great(13, nth_hold, THIRTEEN, 0)
        self.too_great(13, rank_of, THIRTEEN, hold)
        self.too_great(13, next_hold, THIRTEEN, hold)
        self.too_great(13, holds_begun, THIRTEEN, ())
        self.too_great(13, next_marks, THIRTEEN, ())

    def test_the_number_of_places_is_told(self):
        for many in (14, 20, 39, 40, 45):
            self.too_great(many, all_holds, (many, ()))
            self.too_great(many, never_in, (many, ((0, 1),)))
            self.too_great(many, holds_begun, (many, ()), (True,))

    def test_ahead_of_all_else(self):
        for thing in whatever():
            for ask in (nth_hold, rank_of, next_hold, holds_begun, next_marks):
                self.too_great(13, ask, THIRTEEN, thing)


class BegunTest(CountingTestCase):
    """[4.2]"""

    def webs(self):
        return small_webs()[::3] + [PAIRS, THREE, PATH] + [web for web in counted_webs() if web[0] < 7]

    def test_holds_begun(self):
        self.assertEqual(holds_begun(PAIRS, ()), 4)
        self.assertEqual(holds_begun(PAIRS, (True,)), 2)
        self.assertEqual(holds_begun(PAIRS, (False,)), 2)
        self.assertEqual(holds_begun(PAIRS, (False, True, False, True)), 1)
        self.assertEqual(holds_begun(PAIRS, (False, True, False, True, True)), 1)
        self.assertEqual(holds_begun(PAIRS, (False, True, False, True, False)), 0)
        self.assertEqual(holds_begun(PAIRS, (True, True)), 0)
        self.assertEqual(holds_begun(THREE, ()), 0)

    def test_next_marks(self):
        self.assertEqual(repr(next_marks(PAIRS, ())), "[False, True]")
        self.assertEqual(repr(next_marks(PAIRS, (True,))), "[False]")
        self.assertEqual(repr(next_marks(PAIRS, (False,))), "[True]")
        self.assertEqual(repr(next_marks(PAIRS, (True, False))), "[False, True]")
        self.assertEqual(repr(next_marks((1, ()), ())), "[True]")

    def test_no_place_is_left(self):
        self.assertEqual(next_marks(PATH, (False, True, False, True)), [])
        self.assertEqual(next_marks(PATH, (True, True, True, True)), [])
        self.assertEqual(next_marks((1, ()), (True,)), [])

    def test_no_hold_begins_so(self):
        self.assertEqual(next_marks(PAIRS, (True, True)), [])
        self.assertEqual(next_marks(THREE, ()), [])
        self.assertEqual(next_marks(PATH, (True,)), [])

    def test_all_beginnings(self):
        for web in self.webs():
            marks = marks_by_trial(web)
            for begun in beginnings_of(web):
                having = [truths for truths in marks if truths[:len(begun)] == begun]
                self.assertEqual(repr(holds_begun(web, begun)), repr(len(having)))
                following = sorted({truths[len(begun)] for truths in having if len(begun) < web[0]})
                self.assertEqual(repr(next_marks(web, begun)), repr(following))

    def test_next_marks_are_those_that_some_hold_begins_with(self):
        for web in self.webs()[::4]:
            for begun in beginnings_of(web):
                if len(begun) < web[0]:
                    found = [truth for truth in (False, True) if holds_begun(web, begun + (truth,)) > 0]
                    self.assertEqual(next_marks(web, begun), found)

    def test_no_beginning(self):
        for ask in (holds_begun, next_marks):
            for thing in (
                (0,), (1,), (1, 0, 1, 0), (True, 0), (False, 1), [], [True], (True,) * 5, (False,) * 5, (None,), ("True",),
                ((True,),), {}, {True: False}, True, False, None, 0, "", "True", (True, False, []), (False, True, False, 1),
            ):
                self.refused(NoPlace, ask, PATH, thing)
            self.refused(NoPlace, ask, (1, ()), (True, True))
            self.refused(NoPlace, ask, THREE, (False,) * 4)

    def test_whatever_for_the_beginning(self):
        for web in ((1, ()), TWO, PATH):
            for thing in whatever():
                for ask in (holds_begun, next_marks):
                    if is_beginning(web, thing):
                        self.assertIn(ask(web, thing), (0, 1, 2, [], [False], [True], [False, True]))
                    else:
                        self.refused(NoPlace, ask, web, thing)


class AlwaysTest(CountingTestCase):
    """[4.3]"""

    def test_always_and_never(self):
        self.assertEqual((always_in(PATH), never_in(PATH)), ((1, 3), (0, 2)))
        self.assertEqual((always_in(TWO), never_in(TWO)), ((), ()))
        self.assertEqual((always_in((1, ())), never_in((1, ()))), ((0,), ()))
        web = (5, ((0, 1), (1, 0), (2, 3), (4, 0), (4, 1)))
        self.assertEqual((always_in(web), never_in(web)), ((3,), (2, 4)))

    def test_a_web_without_holds(self):
        self.assertEqual((always_in(THREE), never_in(THREE)), ((0, 1, 2), (0, 1, 2)))
        web = (12, tuple(sorted(THREE[1] + tuple((place, 0) for place in range(3, 12)))))
        self.assertEqual((always_in(web), never_in(web)), (tuple(range(12)), tuple(range(12))))

    def test_many_webs(self):
        for web in small_webs() + counted_webs()[::2] + [FOURS]:
            holds = holds_by_trial(web)
            always = tuple(place for place in range(web[0]) if all(place in hold for hold in holds))
            never = tuple(place for place in range(web[0]) if all(place not in hold for hold in holds))
            self.assertEqual(repr(always_in(web)), repr(always))
            self.assertEqual(repr(never_in(web)), repr(never))


if __name__ == "__main__":
    unittest.main()
