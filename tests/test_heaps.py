"""[8.1] to [8.6]: heaps of things of which two take by turns."""

import functools
import itertools
import unittest

from holdsets.counting import all_holds
from holdsets.errors import NoNumber, TooGreat
from holdsets.heaps import (
    good_takes, heap_far, heap_numbers, heap_round, heap_web, heaps_number, round_good, takes_good, zero_heaps,
)
from holdsets.marks import one_hold
from holdsets.numbers import numbers_of
from holdsets.webs import web_good
from tests.helper import nested, whatever

ALL_TAKES = [some for count in range(1, 10) for some in itertools.combinations(range(1, 10), count)]
SOME_TAKES = ALL_TAKES[::17] + [(1,), (9,), (1, 2), (2, 3), (1, 4), (1, 2, 3), (2, 3, 6, 8, 9), tuple(range(1, 10))]
# Takes beyond those that are told, whose first round is longer than any that is told.
LONG = (1, 18, 44, 45)
NO_COUNTS = (-1, 5001, 10 ** 40, -(10 ** 99), True, False, None, "", "5", "12", [], [5], (), (5,), {}, {5: 5}, ((5,),))


@functools.lru_cache(maxsize=None)
def table_of(takes, most):
    """The numbers of heaps, heap by heap: of all whole numbers the first that no heap has to which a take leads."""
    numbers = []
    for heap in range(most + 1):
        beneath = {numbers[heap - take] for take in takes if heap - take >= 0}
        numbers.append(next(number for number in itertools.count() if number not in beneath))
    return tuple(numbers)


def is_round(takes, start, lap):
    """Tell whether three hundred heaps from the start on have the numbers of those of lap more."""
    numbers = table_of(takes, 500 if start + lap < 200 else 6000)
    return numbers[start:start + 300] == numbers[start + lap:start + lap + 300]


@functools.lru_cache(maxsize=None)
def wins(takes, heaps):
    """Tell, by trying all turns, whether who is to take can win."""
    return any(not wins(takes, left) for left in turns_from(takes, heaps).values())


def turns_from(takes, heaps):
    """Tell, by turns (heap, take), the heaps behind each."""
    return {
        (place, take): heaps[:place] + (heap - take,) + heaps[place + 1:]
        for place, heap in enumerate(heaps) for take in takes if take <= heap
    }


class TakesTest(unittest.TestCase):
    """[8.1]"""

    def test_all_takes_are_takes(self):
        self.assertEqual(len(ALL_TAKES), 511)
        for takes in ALL_TAKES:
            self.assertIs(takes_good(takes), True)

    def test_what_is_none(self):
        for thing in (
            (), tuple(range(1, 11)), tuple(range(0, 9)), (0,), (10,), (0, 1), (1, 10), (9, 10), (-1,), (-1, 1), (2, 1), (1, 1),
            (1, 3, 2), (1, 2, 2), (9, 8, 7), (1,) * 9, (1, 2) * 5, (True,), (False,), (True, 2), (1, True), (None,), ("1",),
            (1, "2"), (1, None), ([1],), ((1,),), (1, (2,)), (1, [2]), [1], [1, 2], [], {}, {1: 2}, {1: True}, 1, 0, -1, 9, True,
            False, None, "", "1", "123", "(1,)", 10 ** 99, (10 ** 99,), (1, 10 ** 99), nested(lambda thing: (thing,), 50),
            nested(lambda thing: (1, thing), 50), nested(lambda thing: [thing], 50),
        ):
            with self.subTest(thing=thing):
                self.assertIs(takes_good(thing), False)

    def test_whatever(self):
        shown = [repr(takes) for takes in ALL_TAKES]
        for thing in whatever():
            with self.subTest(thing=thing):
                self.assertIs(takes_good(thing), repr(thing) in shown)


class NumbersTest(unittest.TestCase):
    """[8.1]"""

    def test_by_hand(self):
        self.assertEqual(heap_numbers((1,), 5), [0, 1, 0, 1, 0, 1])
        self.assertEqual(heap_numbers((1, 2), 7), [0, 1, 2, 0, 1, 2, 0, 1])
        self.assertEqual(heap_numbers((2, 3), 11), [0, 0, 1, 1, 2, 0, 0, 1, 1, 2, 0, 0])
        self.assertEqual(heap_numbers((1, 3, 4), 9), [0, 1, 0, 1, 2, 3, 2, 0, 1, 0])
        self.assertEqual(heap_numbers((9,), 20), [0] * 9 + [1] * 9 + [0] * 3)
        self.assertEqual(heap_numbers((5, 6), 4), [0] * 5)

    def test_the_heap_without_things(self):
        for takes in ALL_TAKES:
            self.assertEqual(heap_numbers(takes, 0), [0])

    def test_heap_by_heap(self):
        for takes in ALL_TAKES:
            self.assertEqual(heap_numbers(takes, 120), list(table_of(takes, 120)))

    def test_of_five_thousand(self):
        for takes in SOME_TAKES[::6]:
            numbers = heap_numbers(takes, 5000)
            self.assertEqual(len(numbers), 5001)
            self.assertEqual(numbers, list(table_of(takes, 6000)[:5001]))
            self.assertEqual(heap_numbers(takes, 4999), numbers[:-1])

    def test_a_heap_whose_number_is_0_is_lost_for_who_is_to_take(self):
        for takes in SOME_TAKES:
            for heap, number in enumerate(heap_numbers(takes, 40)):
                self.assertEqual(number != 0, wins(takes, (heap,)))

    def test_refused(self):
        for most in NO_COUNTS + (5001, 10 ** 99, "5000", [5000]):
            with self.subTest(most=most):
                with self.assertRaises(NoNumber):
                    heap_numbers((1, 2), most)


class RoundTest(unittest.TestCase):
    """[8.2]"""

    def test_by_hand(self):
        self.assertEqual(heap_round((1,)), (0, 2))
        self.assertEqual(heap_round((4,)), (0, 8))
        self.assertEqual(heap_round((1, 2)), (0, 3))
        self.assertEqual(heap_round((2, 3)), (0, 5))
        self.assertEqual(heap_round((1, 3, 5, 7, 9)), (0, 2))
        self.assertEqual(heap_round((1, 2, 3, 4, 5, 6, 7, 8, 9)), (0, 10))
        self.assertEqual(heap_round((2, 3, 6, 8, 9)), (27, 27))

    def test_the_least_lap_and_for_it_the_least_start(self):
        late = 0
        for takes in ALL_TAKES:
            found = heap_round(takes)
            by_trial = [(lap, start) for lap in range(1, 60) for start in range(60 - lap) if is_round(takes, start, lap)]
            with self.subTest(takes=takes):
                self.assertIsInstance(found, tuple)
                self.assertEqual((found[1], found[0]), min(by_trial))
            late += found[0] > 0
        self.assertGreater(late, 10)

    def test_start_and_lap_together_at_the_edge(self):
        self.assertEqual(heap_round((2000,)), (0, 4000))
        self.assertIs(round_good((2000,), (0, 4000)), True)
        self.assertIs(round_good((2000,), (1, 4000)), False)
        self.assertEqual(heap_round((1, 3998)), (0, 3999))
        self.assertIsNone(heap_round((1, 4000)))
        self.assertIs(round_good((1, 4000), (0, 4001)), False)
        self.assertIsNone(heap_round((2001,)))

    def test_a_late_start_counts_too(self):
        self.assertEqual(heap_round((3, 20, 29, 34, 39, 47, 49, 58, 59)), (2285, 1712))
        self.assertIs(is_round((3, 20, 29, 34, 39, 47, 49, 58, 59), 2285, 1712), True)
        self.assertIs(is_round((3, 20, 29, 34, 39, 47, 49, 58, 59), 2284, 1712), False)

    def test_none(self):
        self.assertIsNone(heap_round(LONG))
        numbers = table_of(LONG, 6000)
        for lap in range(1, 4001):
            # A round of this lap would have to stand from here on at the latest.
            last = 4000 - lap
            self.assertNotEqual(numbers[last:last + 1000], numbers[last + lap:last + lap + 1000])

    def test_good_ones(self):
        for takes in SOME_TAKES:
            start, lap = heap_round(takes)
            for later in (0, 1, 2, 7, 100, 1000):
                for times in (1, 2, 3, 10):
                    self.assertIs(round_good(takes, (start + later, lap * times)), True)
            most = (4000 - start) // lap
            self.assertIs(round_good(takes, (start, lap * most)), True)
            self.assertIs(round_good(takes, (start, lap * (most + 1))), False)
            self.assertIs(round_good(takes, (4000 - lap, lap)), True)
            self.assertIs(round_good(takes, (4001 - lap, lap)), False)

    def test_an_earlier_start_or_another_lap_is_none(self):
        for takes in SOME_TAKES + [(2, 3, 6, 8, 9), (1, 3, 4), (2, 4, 7)]:
            start, lap = heap_round(takes)
            for first in range(start):
                for times in (1, 2, 5):
                    self.assertIs(round_good(takes, (first, lap * times)), False)
            for other in range(1, 3 * lap):
                self.assertIs(round_good(takes, (start, other)), other % lap == 0)
                self.assertIs(round_good(takes, (start + 500, other)), other % lap == 0)

    def test_all_of_some_takes_by_trial(self):
        for takes in ((1,), (2, 3), (2, 4, 7), (1, 4, 6, 9), (2, 3, 6, 8, 9)):
            for start in range(0, 60, 3):
                for lap in range(60):
                    self.assertIs(round_good(takes, (start, lap)), lap > 0 and is_round(takes, start, lap))

    def test_none_of_them(self):
        for thing in (
            (0, 0), (5, 0), (-1, 2), (-2, 2), (0, -2), (2, -2), (-2, 4), (0, 4002), (4000, 2), (3999, 2), (4000, 0), (4002, -2),
            (-2, 4002), (True, 2), (False, 2), (0, True), (False, True), (0, 2, 2), (0,), (2,), (), (0, 2, 0), [0, 2],
            [0], {0: 2},
            {}, "02", "", "(0, 2)", None, True, False, 0, 2, (None, 2), (0, None), ("0", 2), (0, "2"), ([0], 2), (0, [2]),
            ((0, 2),), ((0,), (2,)), [(0, 2)], (10 ** 99, 2), (0, 10 ** 99), (0, 2 * 10 ** 60), (-(10 ** 99), 10 ** 99),
            (-(10 ** 99) + 2, 10 ** 99), nested(lambda thing: (thing, 2), 50), nested(lambda thing: (0, thing), 50),
        ):
            with self.subTest(thing=thing):
                self.assertIs(round_good((1,), thing), False)
        self.assertIs(round_good((1,), (0, 2)), True)
        self.assertIs(round_good((1,), (3998, 2)), True)
        self.assertIs(round_good((1,), (0, 4000)), True)

    def test_whatever(self):
        good = [repr((start, lap)) for start in range(60) for lap in range(2, 60, 2)]
        for thing in whatever():
            with self.subTest(thing=thing):
                self.assertIs(round_good((1,), thing), repr(thing) in good)


class FarTest(unittest.TestCase):
    """[8.3]"""

    def test_near_heaps(self):
        for takes in SOME_TAKES:
            self.assertEqual([heap_far(takes, heap) for heap in range(0, 90, 4)], list(table_of(takes, 89)[::4]))
            for heap in (0, 4999, 5000):
                self.assertEqual(heap_far(takes, heap), table_of(takes, 6000)[heap])

    def test_beyond_five_thousand_against_heap_by_heap(self):
        for takes in SOME_TAKES:
            for heap in (5001, 5002, 5003, 5007, 5500, 5999, 6000):
                self.assertEqual(heap_far(takes, heap), table_of(takes, 6000)[heap])

    def test_all_takes_at_the_edge(self):
        for takes in ALL_TAKES[::3]:
            self.assertEqual(heap_far(takes, 5001), table_of(takes, 5001)[5001])

    def test_ever_so_far(self):
        for heap in (5001, 10 ** 6, 10 ** 39 + 7, 10 ** 40 - 1, 10 ** 40):
            for most in range(1, 10):
                self.assertEqual(heap_far(tuple(range(1, most + 1)), heap), heap % (most + 1))
            for take in range(1, 10):
                self.assertEqual(heap_far((take,), heap), heap // take % 2)
            self.assertEqual(heap_far((2, 3), heap), (0, 0, 1, 1, 2)[heap % 5])
            self.assertEqual(heap_far((1, 3, 4), heap), (0, 1, 0, 1, 2, 3, 2)[heap % 7])

    def test_far_on_with_a_late_start(self):
        takes = (2, 3, 6, 8, 9)
        numbers = table_of(takes, 6000)
        for heap in (5001, 10 ** 20, 10 ** 40 - 3, 10 ** 40):
            # 27 heaps from the hundred and eighth on come again and again.
            self.assertEqual(heap_far(takes, heap), numbers[108 + heap % 27])

    def test_a_long_late_round_told_far_on(self):
        takes = (3, 20, 29, 34, 39, 47, 49, 58, 59)
        numbers = table_of(takes, 9000)
        for heap in (5001, 6002, 8000, 9000):
            self.assertEqual(heap_far(takes, heap), numbers[heap])

    def test_without_a_round(self):
        for heap in (0, 100, 4000, 4999, 5000):
            self.assertEqual(heap_far(LONG, heap), table_of(LONG, 6000)[heap])
        for heap in (5001, 5002, 10 ** 39, 10 ** 40):
            with self.assertRaises(TooGreat) as caught:
                heap_far(LONG, heap)
            self.assertEqual(vars(caught.exception), {"many": heap, "most": 5000})

    def test_no_number_goes_ahead(self):
        for takes in ((1, 2), LONG):
            for heap in (-1, 10 ** 40 + 1, 10 ** 99, -(10 ** 40), True, False, None, "", "5", [5], (5,), {5: 5}, [], (), {}):
                with self.subTest(takes=takes, heap=heap):
                    with self.assertRaises(NoNumber):
                        heap_far(takes, heap)


class HeapsTest(unittest.TestCase):
    """[8.4]"""

    def test_by_hand(self):
        self.assertEqual(heaps_number((1, 2, 3), [7]), 3)
        self.assertEqual(heaps_number((1, 2, 3), [7, 2]), 1)
        self.assertEqual(good_takes((1, 2, 3), [7]), [(0, 3)])
        self.assertEqual(good_takes((1, 2, 3), [7, 2]), [(0, 1)])
        self.assertEqual(good_takes((1, 2, 3), [1, 2, 3]), [])
        self.assertEqual(good_takes((1,), [1, 2, 3, 4, 5]), [(0, 1), (1, 1), (2, 1), (3, 1), (4, 1)])
        self.assertEqual(good_takes((1, 3, 4), [4]), [(0, 4)])
        # From 5 things the takes lead to heaps with the numbers 2, 0 and 1.
        self.assertEqual(heaps_number((1, 3, 4), [5, 5, 5]), 3)
        self.assertEqual(good_takes((1, 3, 4), [5, 5, 5]), [(0, 3), (1, 3), (2, 3)])
        self.assertEqual(good_takes((1, 3), [5]), [(0, 1), (0, 3)])

    def test_one_heap(self):
        for takes in SOME_TAKES:
            numbers = table_of(takes, 30)
            for heap in range(31):
                self.assertEqual(heaps_number(takes, [heap]), numbers[heap])
                fit = [take for take in takes if take <= heap]
                self.assertEqual(good_takes(takes, [heap]), [(0, take) for take in fit if numbers[heap - take] == 0])

    def test_by_trying_all_turns(self):
        for takes in ((1,), (1, 2), (2, 3), (1, 3, 4), (2, 5, 6), (1, 4, 9)):
            for heaps in itertools.product((0, 1, 3, 4, 6, 9), repeat=3):
                with self.subTest(takes=takes, heaps=heaps):
                    self.assertEqual(heaps_number(takes, list(heaps)) != 0, wins(takes, heaps))
                    good = sorted(turn for turn, left in turns_from(takes, heaps).items() if not wins(takes, left))
                    self.assertEqual(good_takes(takes, list(heaps)), good)

    def test_eight_heaps(self):
        takes = (1, 2, 5, 7)
        heaps = [5000, 0, 17, 17, 4321, 3, 1, 4999]
        numbers = table_of(takes, 6000)
        together = 0
        for heap in heaps:
            together ^= numbers[heap]
        self.assertEqual(heaps_number(takes, heaps), together)
        good = []
        for turn, left in sorted(turns_from(takes, tuple(heaps)).items()):
            if functools.reduce(lambda one, other: one ^ other, [numbers[heap] for heap in left]) == 0:
                good.append(turn)
        self.assertNotEqual(good, [])
        self.assertEqual(good_takes(takes, heaps), good)

    def test_alike_heaps_are_as_none(self):
        for takes in SOME_TAKES[::4]:
            for heap in (0, 1, 7, 12, 5000):
                self.assertEqual(heaps_number(takes, [heap, heap]), 0)
                self.assertEqual(good_takes(takes, [heap] * 8), [])
                self.assertEqual(heaps_number(takes, [heap, 11, heap]), heaps_number(takes, [11]))

    def test_heaps_without_things(self):
        self.assertEqual(heaps_number((1, 2), [0] * 8), 0)
        self.assertEqual(good_takes((1, 2), [0]), [])

    def test_refused(self):
        for thing in (
            [], [0] * 9, [1] * 9, (1,), (1, 2), (), {}, {0: 1}, {1: 1}, 1, 0, None, True, False, "", "1", "12", [True], [False],
            [1, True], [True, 1], [None], [1, None], ["1"], [1, "2"], [5001], [1, 5001], [-1], [1, -1], [[1]], [(1,)], [1, [2]],
            [{}], [10 ** 99], [10 ** 40, 1], [-(10 ** 99)], nested(lambda thing: [thing], 50),
            nested(lambda thing: [1, thing], 50),
        ):
            for ask in (heaps_number, good_takes):
                with self.subTest(ask=ask.__name__, thing=thing):
                    with self.assertRaises(NoNumber):
                        ask((1, 2), thing)

    def test_whatever(self):
        for thing in whatever():
            good = isinstance(thing, list) and 0 < len(thing) < 9
            good = good and all(type(heap) is int and 0 <= heap <= 5000 for heap in thing)
            for ask in (heaps_number, good_takes):
                with self.subTest(ask=ask.__name__, thing=thing):
                    if good:
                        ask((1, 2), thing)
                    else:
                        with self.assertRaises(NoNumber):
                            ask((1, 2), thing)


class WebTest(unittest.TestCase):
    """[8.5]"""

    def test_by_hand(self):
        self.assertEqual(heap_web((1, 3), 0), (1, ()))
        self.assertEqual(heap_web((1, 3), 4), (5, ((1, 0), (2, 1), (3, 0), (3, 2), (4, 1), (4, 3))))
        self.assertEqual(heap_web((9,), 8), (9, ()))
        self.assertEqual(heap_web((9,), 9), (10, ((9, 0),)))

    def test_each_place_leads_to_those_that_a_take_leads_to(self):
        for takes in SOME_TAKES:
            for most in (0, 1, 2, 8, 9, 10, 19):
                pairs = {(heap, left) for heap in range(most + 1) for left in range(most + 1) if heap - left in takes}
                web = heap_web(takes, most)
                self.assertIs(web_good(web), True)
                self.assertEqual(web, (most + 1, tuple(sorted(pairs))))

    def test_the_greatest(self):
        self.assertEqual(heap_web((1,), 39), (40, tuple((heap, heap - 1) for heap in range(1, 40))))
        web = heap_web((1, 4, 5, 7, 8, 9), 38)
        self.assertEqual(len(web[1]), 200)
        self.assertIs(web_good(web), True)
        self.assertIs(web_good(heap_web((1, 2, 3, 4, 5), 39)), True)

    def test_too_great(self):
        for takes, most, many in (
            ((4, 5, 6, 7, 8, 9), 39, 201), ((1, 4, 5, 7, 8, 9), 39, 206), ((1, 3, 5, 7, 8, 9), 38, 201),
            (tuple(range(1, 10)), 39, 315), (tuple(range(1, 10)), 27, 207),
        ):
            with self.assertRaises(TooGreat) as caught:
                heap_web(takes, most)
            self.assertEqual(vars(caught.exception), {"many": many, "most": 200})
        self.assertEqual(len(heap_web(tuple(range(1, 10)), 26)[1]), 198)

    def test_refused(self):
        for most in NO_COUNTS + (40, 41, 5000, [39], "39"):
            for takes in ((1,), tuple(range(1, 10))):
                with self.subTest(most=most):
                    with self.assertRaises(NoNumber):
                        heap_web(takes, most)


class ZeroTest(unittest.TestCase):
    """[8.5]"""

    def test_by_hand(self):
        self.assertEqual(zero_heaps((1, 2), 9), [0, 3, 6, 9])
        self.assertEqual(zero_heaps((2, 3), 11), [0, 1, 5, 6, 10, 11])
        self.assertEqual(zero_heaps((1, 2, 3), 0), [0])

    def test_to_so_many_things(self):
        for takes in SOME_TAKES:
            for most in (0, 1, 9, 60):
                self.assertEqual(zero_heaps(takes, most), [heap for heap in range(most + 1) if table_of(takes, 60)[heap] == 0])

    def test_to_five_thousand(self):
        for takes in SOME_TAKES[::8]:
            self.assertEqual(zero_heaps(takes, 5000), [heap for heap in range(5001) if table_of(takes, 6000)[heap] == 0])
        self.assertEqual(zero_heaps((1,), 5000), list(range(0, 5001, 2)))

    def test_refused(self):
        for most in NO_COUNTS:
            with self.subTest(most=most):
                with self.assertRaises(NoNumber):
                    zero_heaps((1, 2), most)


class SentencesTest(unittest.TestCase):
    """[8.6]"""

    def test_the_numbers_of_the_heap_web_are_those_of_the_heaps(self):
        for takes in SOME_TAKES:
            for most in (0, 5, 11, 20):
                web = heap_web(takes, most)
                self.assertEqual(list(numbers_of(web)), heap_numbers(takes, most))
                self.assertEqual(list(one_hold(web)), zero_heaps(takes, most))
                if most < 12:
                    self.assertEqual(all_holds(web), [tuple(zero_heaps(takes, most))])

    def test_the_number_of_a_heap_is_at_most_how_many_takes_there_are(self):
        for takes in ALL_TAKES:
            self.assertLessEqual(max(heap_numbers(takes, 100)), len(takes))

    def test_far_on_numbers_come_again_by_each_round(self):
        for takes in SOME_TAKES:
            start, lap = heap_round(takes)
            for times in (1, 2, 10 ** 30):
                for heap in (start, start + 1, start + lap - 1, start + 777):
                    self.assertEqual(heap_far(takes, heap), heap_far(takes, heap + lap * times))
            numbers = heap_numbers(takes, 600)
            for found in ((start, lap), (start + 3, 2 * lap)):
                self.assertIs(round_good(takes, found), True)
                self.assertEqual(numbers[found[0]:600 - found[1]], numbers[found[0] + found[1]:600])

    def test_good_takes_are_there_just_where_the_heaps_number_is_not_0(self):
        for takes in SOME_TAKES:
            for heaps in ([0], [4], [5, 5], [1, 2, 3], [9, 8, 7, 6], [10, 20, 30, 40, 50, 60, 70, 80], [13, 1], [3, 3, 6]):
                good = good_takes(takes, heaps)
                self.assertEqual(good != [], heaps_number(takes, heaps) != 0)
                for place, take in good:
                    self.assertEqual(heaps_number(takes, heaps[:place] + [heaps[place] - take] + heaps[place + 1:]), 0)


if __name__ == "__main__":
    unittest.main()
