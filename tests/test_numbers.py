"""[7.1] to [7.5]: holdsets.numbers."""

import functools
import itertools
import random
import unittest

from holdsets.errors import NoPlace, Ringed, TooGreat
from holdsets.games import outcomes
from holdsets.holds import hold_good
from holdsets.marks import depths_of, one_hold
from holdsets.numbers import good_moves, number_web, numbers_good, numbers_of, stones_number, together_of
from holdsets.webs import leads_to, web_good
from tests.helper import great_webs, holds_by_trial, is_place, is_ring, ringless_webs, rings_of, small_webs, webs_with, whatever

PATH = (4, ((0, 1), (1, 2), (2, 3)))
TWO = (2, ((0, 1), (1, 0)))
THREE = (3, ((0, 1), (1, 2), (2, 0)))
# Numbers 0, 1, 2 and 3 at the places 4, 2, 0 and 5, 0 at 1 and 3.
MIXED = (6, ((0, 2), (0, 4), (2, 3), (5, 0), (5, 1), (5, 2)))
# A ring of two whose places have numbers by what lies beside it: 0 has 2, 1 has 1 or the other way.
RINGED = (4, ((0, 1), (0, 2), (1, 0), (1, 2), (3, 2)))


def least_missing(numbers):
    return min(set(range(len(numbers) + 1)) - set(numbers))


def is_numbers(web, thing):
    """Tell it by the words of the document, place by place."""
    if not isinstance(thing, tuple) or len(thing) != web[0]:
        return False
    if not all(repr(number).isdigit() for number in thing):
        return False
    return all(thing[place] == least_missing([thing[b] for a, b in web[1] if a == place]) for place in range(web[0]))


def number_by_ways(web):
    """Tell the numbers of a web without rings, each place by itself from those beneath."""
    @functools.lru_cache(maxsize=None)
    def number(place):
        return least_missing([number(b) for a, b in web[1] if a == place])
    return tuple(number(place) for place in range(web[0]))


def who_wins(web):
    """Tell a function that tells whether who is to move wins, by trying all moves; stones are handed in rising."""
    @functools.lru_cache(maxsize=None)
    def wins(stones):
        behind = [
            tuple(sorted(stones[:stone] + (b,) + stones[stone + 1:]))
            for stone in range(len(stones)) for a, b in web[1] if a == stones[stone]
        ]
        return any(not wins(after) for after in behind)
    return wins


def moves_by_trial(web, stones, wins):
    """Tell all moves behind which who is to move loses."""
    return [
        (stone, b) for stone, place in enumerate(stones) for a, b in web[1]
        if a == place and not wins(tuple(sorted(stones[:stone] + (b,) + stones[stone + 1:])))
    ]


def small_ringless():
    return [web for web in small_webs() if not rings_of(web)]


def drawn_stones(web, count, seed):
    drawn = random.Random(seed)
    return [tuple(drawn.randrange(web[0]) for _ in range(drawn.randrange(9))) for _ in range(count)]


def is_stones(web, thing):
    return isinstance(thing, tuple) and len(thing) <= 8 and all(is_place(web, place) for place in thing)


class NumbersTestCase(unittest.TestCase):
    def refused(self, kind, ask, *things):
        with self.subTest(ask=ask.__name__, things=things):
            with self.assertRaises(kind) as caught:
                ask(*things)
            self.assertIs(type(caught.exception), kind)
            return caught.exception

    def ringed(self, ask, web, *things):
        refusal = self.refused(Ringed, ask, web, *things)
        self.assertIsInstance(refusal.ring, tuple)
        self.assertTrue(is_ring(web, refusal.ring))
        self.assertEqual(len(set(refusal.ring)), len(refusal.ring))


class NumbersTest(NumbersTestCase):
    """[7.1]"""

    def test_told(self):
        for web, numbers in (
            ((1, ()), (0,)), ((3, ()), (0, 0, 0)), (PATH, (1, 0, 1, 0)), (MIXED, (2, 0, 1, 0, 0, 3)),
            ((3, ((0, 1), (0, 2), (1, 2))), (2, 1, 0)), ((4, ((0, 1), (0, 2), (1, 3), (2, 3))), (0, 1, 1, 0)),
        ):
            with self.subTest(web=web):
                self.assertEqual(repr(numbers_of(web)), repr(numbers))
                self.assertIs(numbers_good(web, numbers), True)

    def test_many_webs(self):
        for web in small_ringless() + ringless_webs() + [number_web(n) for n in range(20)]:
            numbers = numbers_of(web)
            self.assertIsInstance(numbers, tuple)
            self.assertEqual(repr(numbers), repr(number_by_ways(web)))
            self.assertIs(numbers_good(web, numbers), True)

    def test_just_one_such_tuple_without_rings(self):
        for web in small_ringless():
            all_numbers = itertools.product(range(web[0] + 1), repeat=web[0])
            self.assertEqual([numbers for numbers in all_numbers if numbers_good(web, numbers)], [numbers_of(web)])

    def test_all_tuples_of_small_webs(self):
        for web in small_webs()[::3] + [TWO, THREE, RINGED]:
            for numbers in itertools.product(range(web[0] + 1), repeat=web[0]):
                self.assertIs(numbers_good(web, numbers), is_numbers(web, numbers))

    def test_webs_with_rings_may_have_numbers(self):
        for web, some in (
            (TWO, [(0, 1), (1, 0)]), (RINGED, [(1, 2, 0, 1), (2, 1, 0, 1)]),
            ((3, ((0, 1), (1, 0), (1, 2))), [(0, 1, 0)]), (THREE, []),
            ((4, ((0, 1), (1, 2), (2, 3), (3, 0))), [(0, 1, 0, 1), (1, 0, 1, 0)]),
        ):
            told = [numbers for numbers in itertools.product(range(4), repeat=web[0]) if numbers_good(web, numbers)]
            self.assertEqual(told, some)
        ring = (40, tuple(sorted((place, (place + 1) % 40) for place in range(40))))
        self.assertIs(numbers_good(ring, (0, 1) * 20), True)
        self.assertIs(numbers_good(ring, (1, 0) * 20), True)
        self.assertIs(numbers_good(ring, (0, 1) * 19 + (0, 2)), False)

    def test_a_number_that_is_not_the_least(self):
        for web in small_ringless() + ringless_webs():
            numbers = numbers_of(web)
            for place in range(web[0]):
                for other in (numbers[place] + 1, numbers[place] - 1, numbers[place] + 7, 10 ** 99, -1):
                    self.assertIs(numbers_good(web, numbers[:place] + (other,) + numbers[place + 1:]), False)
        self.assertIs(numbers_good((2, ((1, 0),)), (0, 2)), False)
        self.assertIs(numbers_good((1, ()), (1,)), False)

    def test_truths_and_other_things_for_numbers(self):
        for thing in ((1, 0, 1, False), (1, 0, True, 0), (True, False, True, False), ("1", "0", "1", "0"),
                      (1, 0, 1, None), (1, 0, 1, ()),
                      (1, 0, 1, []), ([1], 0, 1, 0), (1, 0, {}, 0), (1, 0, 1, ""), (-1, 0, -1, 0), (None,) * 4):
            with self.subTest(thing=thing):
                self.assertIs(numbers_good(PATH, thing), False)
        self.assertIs(numbers_good((1, ()), (False,)), False)
        self.assertIs(numbers_good(TWO, (False, True)), False)

    def test_lists_and_one_more_or_fewer(self):
        for web in small_ringless() + ringless_webs():
            numbers = numbers_of(web)
            for thing in (list(numbers), numbers[1:], numbers[:-1], numbers + (0,), numbers + (1,), (0,) + numbers,
                          (numbers,), [numbers],
                          dict(enumerate(numbers)), repr(numbers), None, ()):
                self.assertIs(numbers_good(web, thing), False)

    def test_whatever(self):
        for web in ((1, ()), (2, ()), (2, ((1, 0),)), TWO, PATH, (4, ((0, 1), (1, 0), (2, 3), (3, 2))), THREE, number_web(3)):
            for thing in whatever():
                with self.subTest(web=web, thing=thing):
                    self.assertIs(numbers_good(web, thing), is_numbers(web, thing))

    def test_the_places_with_0_are_a_hold(self):
        for web in small_webs():
            for numbers in itertools.product(range(3), repeat=web[0]):
                if numbers_good(web, numbers):
                    self.assertIn(tuple(place for place in range(web[0]) if numbers[place] == 0), holds_by_trial(web))
        for web in ringless_webs():
            zeros = tuple(place for place, number in enumerate(numbers_of(web)) if number == 0)
            self.assertIs(hold_good(web, zeros), True)
            self.assertEqual(zeros, one_hold(web))

    def test_ringed(self):
        for web in [web for web in small_webs() if rings_of(web)] + [TWO, THREE, RINGED]:
            self.ringed(numbers_of, web)
        for many in (2, 3, 39, 40):
            self.ringed(numbers_of, (many, tuple(sorted((place, (place + 1) % many) for place in range(many)))))
        self.ringed(numbers_of, (40, tuple((place, place + 1) for place in range(39)) + ((39, 38),)))

    def test_great_webs_are_answered_or_ringed(self):
        for web in great_webs():
            try:
                self.assertTrue(is_numbers(web, numbers_of(web)))
            except Ringed:
                self.ringed(numbers_of, web)

    def test_no_number_is_more_than_the_depth(self):
        for web in ringless_webs():
            for number, depth in zip(numbers_of(web), depths_of(web)):
                self.assertLessEqual(number, depth)


class TogetherTest(NumbersTestCase):
    """[7.2]"""

    def together_by_powers(self, numbers):
        """Tell it by the words of the document."""
        powers = {}
        for number in numbers:
            for place, sign in enumerate(reversed(bin(number)[2:])):
                powers[place] = powers.get(place, 0) + (sign == "1")
        return sum(2 ** place for place, count in powers.items() if count % 2)

    def test_told(self):
        for numbers, told in (
            ([], 0), ([0], 0), ([5], 5), ([5, 5], 0), ([0, 0], 0), ([1, 2], 3), ([3, 5], 6), ([1, 2, 3], 0),
            ([7, 7, 7], 7), ([4, 0], 4),
            ([10 ** 59], 10 ** 59), ([10 ** 60 - 1, 10 ** 60 - 1], 0), ([10 ** 60 - 1, 0, 10 ** 59, 10 ** 59], 10 ** 60 - 1),
            ([2 ** 199 - 1, 2 ** 198], 2 ** 198 - 1), ([2 ** 198, 1], 2 ** 198 + 1),
        ):
            with self.subTest(numbers=numbers):
                self.assertEqual(repr(together_of(numbers)), repr(told))

    def test_small_numbers(self):
        for one in range(33):
            for other in range(33):
                self.assertEqual(together_of([one, other]), self.together_by_powers([one, other]))

    def test_numbers_of_sixty_figures(self):
        drawn = random.Random(7)
        for count in range(12):
            numbers = [drawn.randrange(10 ** 59, 10 ** 60) for _ in range(count)]
            self.assertEqual(repr(together_of(numbers)), repr(self.together_by_powers(numbers)))
            self.assertEqual(together_of(numbers + numbers), 0)
            self.assertEqual(together_of(numbers + [together_of(numbers)]), 0)
            self.assertEqual(together_of(numbers[::-1]), together_of(numbers))

    def test_the_list_is_not_changed(self):
        numbers = [3, 5, 10 ** 59]
        told = together_of(numbers)
        self.assertEqual(numbers, [3, 5, 10 ** 59])
        numbers.clear()
        numbers.append(1)
        self.assertEqual(together_of([3, 5, 10 ** 59]), told)
        self.assertEqual(together_of(numbers), 1)


class StonesTest(NumbersTestCase):
    """[7.3]"""

    def test_numbers_told(self):
        for stones, number in (
            ((), 0), ((0,), 2), ((5,), 3), ((1,), 0), ((0, 0), 0), ((0, 2), 3), ((0, 2, 5), 0), ((5, 5, 5), 3), ((0,) * 8, 0),
            ((0,) * 7 + (2,), 3), ((0, 1, 2, 3, 4, 5, 0, 2), 3),
        ):
            with self.subTest(stones=stones):
                self.assertEqual(repr(stones_number(MIXED, stones)), repr(number))

    def test_moves_told(self):
        for stones, moves in (
            ((), []), ((1,), []), ((0,), [(0, 4)]), ((5,), [(0, 1)]), ((2,), [(0, 3)]), ((0, 0), []), ((0, 2), [(0, 2)]),
            ((2, 0), [(1, 2)]), ((5, 0), [(0, 0)]), ((0, 2, 5), []), ((2, 2, 2), [(0, 3), (1, 3), (2, 3)]),
            ((0,) * 8, []), ((5,) * 7 + (3,), [(stone, 1) for stone in range(7)]),
        ):
            with self.subTest(stones=stones):
                self.assertEqual(repr(good_moves(MIXED, stones)), repr(moves))

    def test_several_moves_of_one_stone(self):
        web = (5, ((0, 1), (0, 2), (0, 3), (3, 4)))
        self.assertEqual(good_moves(web, (0,)), [(0, 1), (0, 2)])
        self.assertEqual(good_moves(web, (4, 0, 0, 0)), [(1, 1), (1, 2), (2, 1), (2, 2), (3, 1), (3, 2)])
        self.assertEqual(good_moves(web, (3, 0)), [(1, 3)])

    def test_who_is_to_move_can_win_just_where_it_is_not_0(self):
        for web in small_ringless() + [MIXED, PATH, number_web(4)] + ringless_webs()[8:13]:
            wins = who_wins(web)
            for count in range(4):
                for stones in itertools.product(range(min(web[0], 6)), repeat=count):
                    self.assertEqual(stones_number(web, stones) != 0, wins(tuple(sorted(stones))))

    def test_good_moves_leave_the_other_one_lost(self):
        for web in small_ringless()[::2] + [MIXED, PATH, number_web(4)]:
            wins = who_wins(web)
            for count in range(4):
                for stones in itertools.product(range(web[0]), repeat=count):
                    self.assertEqual(good_moves(web, stones), moves_by_trial(web, stones, wins))

    def test_up_to_eight_stones_on_great_webs(self):
        for seed, web in enumerate(ringless_webs()):
            numbers = number_by_ways(web)
            for stones in drawn_stones(web, 6, seed):
                together = functools.reduce(lambda one, other: one ^ other, [numbers[place] for place in stones], 0)
                self.assertEqual(stones_number(web, stones), together)
                moves = [
                    (stone, b) for stone, place in enumerate(stones) for b in leads_to(web, place)
                    if stones_number(web, stones[:stone] + (b,) + stones[stone + 1:]) == 0
                ]
                self.assertIsInstance(good_moves(web, stones), list)
                self.assertEqual(repr(good_moves(web, stones)), repr(moves))
                self.assertEqual(moves, sorted(moves))

    def test_one_stone_is_a_game_of_its_own(self):
        for web in ringless_webs():
            for place, outcome in enumerate(outcomes(web)):
                self.assertEqual(stones_number(web, (place,)) == 0, outcome == "lost")
                lost = [(0, b) for b in leads_to(web, place) if outcomes(web)[b] == "lost"]
                self.assertEqual(good_moves(web, (place,)), lost)

    def test_no_place(self):
        for ask in (stones_number, good_moves):
            for thing in ((0,) * 9, [], [0], [0, 1], (True,), (False,), (0, True), (6,), (0, 6), (-1,), (0, -1),
                          (10 ** 99,), None, 0,
                          "", "0", {}, {0: 0}, ("0",), ((0,),), ([0],), (None,), (0, None), (0,) * 40, True):
                self.refused(NoPlace, ask, MIXED, thing)
            for web in (MIXED, (1, ()), PATH, (40, ())):
                for thing in whatever():
                    if is_stones(web, thing):
                        ask(web, thing)
                    else:
                        self.refused(NoPlace, ask, web, thing)

    def test_just_eight(self):
        self.assertEqual(stones_number((1, ()), (0,) * 8), 0)
        self.assertEqual(good_moves((1, ()), (0,) * 8), [])
        self.assertEqual(stones_number(number_web(19), (19, 18, 17, 16, 15, 14, 13, 12)), 0)
        self.assertEqual(stones_number(number_web(19), (16, 8, 4, 2, 1, 0, 3, 3)), 31)
        self.assertEqual(good_moves(number_web(19), (16, 8, 4, 2, 1, 0, 3, 3)), [(0, 15)])

    def test_ringed(self):
        for web in [web for web in small_webs() if rings_of(web)][::3] + [TWO, THREE, RINGED]:
            for stones in ((), (0,), (0, 1), (0,) * 8):
                self.ringed(stones_number, web, stones)
                self.ringed(good_moves, web, stones)

    def test_ringed_goes_ahead_of_no_place(self):
        for ask in (stones_number, good_moves):
            for thing in whatever() + [(0,) * 9, [0], (True,), (7,), None]:
                self.ringed(ask, RINGED, thing)
                self.ringed(ask, (40, ((0, 1), (1, 39), (39, 0))), thing)


class NumberWebTest(NumbersTestCase):
    """[7.4]"""

    def test_told(self):
        self.assertEqual(number_web(0), (1, ()))
        self.assertEqual(number_web(1), (2, ((1, 0),)))
        self.assertEqual(number_web(3), (4, ((1, 0), (2, 0), (2, 1), (3, 0), (3, 1), (3, 2))))
        self.assertEqual(number_web(19), (20, tuple((a, b) for a in range(20) for b in range(a))))

    def test_all(self):
        for n in range(20):
            web = number_web(n)
            self.assertIs(web_good(web), True)
            self.assertEqual(web[0], n + 1)
            for place in range(n + 1):
                self.assertEqual(leads_to(web, place), list(range(place)))
            self.assertEqual(numbers_of(web), tuple(range(n + 1)))

    def test_too_great(self):
        for n in (20, 21, 39, 40, 200, 10 ** 59, 10 ** 60 - 1):
            refusal = self.refused(TooGreat, number_web, n)
            self.assertEqual(repr((refusal.many, refusal.most)), repr((n, 19)))


class SoTest(NumbersTestCase):
    """[7.5]"""

    def cases(self):
        for web in small_ringless()[::2] + webs_with(4, 7):
            if not rings_of(web):
                for count in range(4):
                    for stones in itertools.product(range(web[0]), repeat=count):
                        yield web, stones
        for seed, web in enumerate(ringless_webs()):
            for stones in drawn_stones(web, 6, 100 + seed):
                yield web, stones

    def test_good_moves_just_where_the_number_is_not_0(self):
        for web, stones in self.cases():
            self.assertEqual(good_moves(web, stones) != [], stones_number(web, stones) != 0)

    def test_two_stones_on_one_place_are_as_none(self):
        for web, stones in self.cases():
            if len(stones) <= 6:
                for place in range(0, web[0], 5):
                    self.assertEqual(stones_number(web, stones + (place, place)), stones_number(web, stones))
                    self.assertEqual(stones_number(web, (place,) + stones + (place,)), stones_number(web, stones))
        for web in ringless_webs():
            for place in range(web[0]):
                self.assertEqual(stones_number(web, (place, place)), 0)
                self.assertEqual(good_moves(web, (place, place)), [])


if __name__ == "__main__":
    unittest.main()
