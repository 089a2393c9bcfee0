"""The sentences over the whole program, asked of the program itself over some small webs."""

import itertools
import unittest

from holdsets.cases import cases_for, cases_good
from holdsets.counting import all_holds, holds_begun, holds_count, next_marks
from holdsets.desk import Desk
from holdsets.games import lengths_of, outcomes, play_good, play_of
from holdsets.heaps import good_takes, heap_far, heap_numbers, heap_round, heap_web, heaps_number, round_good, zero_heaps
from holdsets.holds import half_good, hold_good, left_by, put_on, why_not, why_not_good
from holdsets.making import arrows_web, beside_web, both_web, hold_from_arrows, hold_to_arrows, put_in
from holdsets.marks import depths_of, grown_web, hold_of, marks_good, marks_of, one_hold
from holdsets.numbers import good_moves, number_web, numbers_good, numbers_of, stones_number, together_of
from holdsets.rings import hold_or_ring, odd_ring, rest_of, settled_marks, sides_good, sides_of
from holdsets.texts import web_read, web_shown
from holdsets.webs import among_web, comes_of, leads_to, led_from, order_good, order_of, ring_good, web_good
from tests.helper import beginnings_of, subsets, webs_with

SMALL = webs_with(1) + webs_with(2) + webs_with(3)
WEBS = SMALL + webs_with(4, 13)
# A ring of three that leads to a ring of two, one of five, and two rings with a place in common.
RINGED = [
    (5, ((0, 1), (1, 2), (2, 0), (2, 3), (3, 4), (4, 3))), (5, ((0, 1), (1, 2), (2, 3), (3, 4), (4, 0))),
    (5, ((0, 1), (1, 0), (1, 2), (2, 3), (3, 4), (4, 1))), (6, ((0, 1), (1, 2), (2, 0), (3, 0), (3, 4), (4, 5), (5, 3))),
]
TAKES = [(1,), (1, 2), (2, 3), (1, 3, 4), (2, 4, 7), (2, 3, 6, 8, 9), (1, 4, 9), tuple(range(1, 10))]


def ring_of(many):
    """A web of one ring alone."""
    return (many, tuple(sorted((place, (place + 1) % many) for place in range(many))))


def ringless(webs):
    return [web for web in webs if order_of(web)[0] == "order"]


class HeadTest(unittest.TestCase):
    """[0.1]"""

    def test_a_set_of_places_holds_a_web(self):
        for web in WEBS:
            for places in subsets(range(web[0])):
                tied = any(b in places for a in places for b in leads_to(web, a))
                held = all(any(b in places for b in leads_to(web, a)) for a in range(web[0]) if a not in places)
                self.assertIs(hold_good(web, places), held and not tied)

    def test_some_webs_have_none_some_one_some_many(self):
        counts = {holds_count(web) for web in WEBS}
        self.assertLessEqual({0, 1, 2, 3}, counts)

    def test_where_there_is_none_a_paper_and_an_odd_ring_show_it(self):
        for web in WEBS + RINGED:
            paper = cases_for(web, ())
            self.assertIs(paper is None, holds_count(web) > 0)
            if paper is not None:
                self.assertIs(cases_good(web, (), paper), True)
                self.assertIs(ring_good(web, odd_ring(web)), True)
                self.assertEqual(len(odd_ring(web)) % 2, 1)

    def test_where_no_ring_is_there_is_just_one(self):
        for web in ringless(WEBS):
            self.assertEqual(all_holds(web), [one_hold(web)])

    def test_each_answer_comes_with_what_shows_it(self):
        for web in WEBS + RINGED:
            self.assertIs(web_good(web), True)
            word, way = order_of(web)
            self.assertIs((order_good if word == "order" else ring_good)(web, way), True)
            word, thing = hold_or_ring(web)
            self.assertIs((hold_good if word == "hold" else ring_good)(web, thing), True)
            self.assertIs(sides_good(web, sides_of(web)), word == "hold")
            for hold in all_holds(web):
                self.assertIs(marks_good(web, marks_of(web, hold)), True)
                self.assertEqual(hold_of(web, marks_of(web, hold)), hold)
            for place in range(web[0]):
                play = play_of(web, place)
                self.assertIs(play_good(web, play), play is not None)
            for places in subsets(range(web[0]))[:12]:
                self.assertIs(why_not_good(web, places, why_not(web, places)), not hold_good(web, places))
            self.assertEqual(web_read(web_shown(web)), web)
        for web in ringless(WEBS):
            self.assertIs(numbers_good(web, numbers_of(web)), True)
        for takes in TAKES:
            self.assertIs(round_good(takes, heap_round(takes)), True)

    def test_stones_heaps_and_webs_made_of_webs_are_settled_by_numbers(self):
        for web in ringless(SMALL):
            for other in ringless(SMALL):
                one, two = numbers_of(web), numbers_of(other)
                both = both_web(web, other)
                won = [outcome == "won" for outcome in outcomes(both)]
                self.assertEqual(won, [together_of([one[a], two[b]]) != 0 for a in range(web[0]) for b in range(other[0])])
        for takes in TAKES:
            web = heap_web(takes, 15)
            for stones in ((3, 9), (14, 15, 2), (7, 7), (11,)):
                self.assertEqual(stones_number(web, stones), heaps_number(takes, list(stones)))
                taken = [(stone, stones[stone] - place) for stone, place in good_moves(web, stones)]
                self.assertEqual(sorted(taken), good_takes(takes, list(stones)))


class HoldsTest(unittest.TestCase):
    """[2.5]"""

    def test_each_hold_is_a_half_hold_that_leaves_no_place(self):
        for web in WEBS:
            for places in subsets(range(web[0])):
                self.assertIs(hold_good(web, places), half_good(web, places) and left_by(web, places) == ())

    def test_none_is_a_half_hold_that_leaves_all(self):
        for web in WEBS:
            self.assertIs(half_good(web, ()), True)
            self.assertEqual(left_by(web, ()), tuple(range(web[0])))

    def test_a_hold_just_where_why_not_tells_none(self):
        for web in WEBS:
            holds = [places for places in subsets(range(web[0])) if why_not(web, places) is None]
            self.assertEqual(sorted(holds), all_holds(web))

    def test_a_half_hold_with_a_hold_put_on_it(self):
        for web in WEBS:
            for half in subsets(range(web[0])):
                if half_good(web, half) and left_by(web, half) != ():
                    for hold in all_holds(among_web(web, left_by(web, half))):
                        self.assertIs(hold_good(web, put_on(web, half, hold)), True)


class RinglessTest(unittest.TestCase):
    """[3.4]"""

    def test_the_hold_among_the_places_that_come_of_one(self):
        for web in ringless(WEBS):
            for place in range(web[0]):
                comes = comes_of(web, place)
                among = one_hold(among_web(web, comes))
                self.assertEqual([comes[number] for number in among], [part for part in one_hold(web) if part in comes])

    def test_grown_by_a_place(self):
        for web in ringless(WEBS):
            hold = one_hold(web)
            for places in subsets(range(web[0])):
                grown = hold if any(place in hold for place in places) else hold + (web[0],)
                self.assertEqual(one_hold(grown_web(web, places)), grown)
                self.assertEqual(led_from(grown_web(web, places), web[0]), [])

    def test_each_place_of_depth_0_is_of_the_hold(self):
        for web in ringless(WEBS):
            for place, depth in enumerate(depths_of(web)):
                self.assertTrue(depth > 0 or place in one_hold(web))


class AllHoldsTest(unittest.TestCase):
    """[4.5]"""

    def test_holds_that_begin_so(self):
        for web in WEBS + RINGED:
            for begun in beginnings_of(web):
                if len(begun) < web[0]:
                    behind = [holds_begun(web, begun + (truth,)) for truth in (False, True)]
                    self.assertEqual(holds_begun(web, begun), sum(behind))
                    self.assertEqual(next_marks(web, begun), [truth for truth in (False, True) if behind[truth] > 0])

    def test_a_paper_just_where_no_hold_begins_so(self):
        for web in WEBS + RINGED:
            for begun in beginnings_of(web):
                paper = cases_for(web, begun)
                self.assertIs(paper is None, holds_begun(web, begun) > 0)
                self.assertIs(cases_good(web, begun, paper), holds_begun(web, begun) == 0)

    def test_whoever_made_the_paper(self):
        steps = [("lost", place) for place in range(3)] + [("tied", a, b) for a in range(3) for b in range(3)]
        papers = steps + [("cases", one, two) for one, two in itertools.product(steps, repeat=2)]
        shown = 0
        for web in webs_with(2) + webs_with(3, 5):
            for begun in beginnings_of(web):
                if holds_begun(web, begun) > 0:
                    self.assertFalse(any(cases_good(web, begun, paper) for paper in papers))
                else:
                    shown += any(cases_good(web, begun, paper) for paper in papers)
        self.assertGreater(shown, 50)

    def test_a_web_without_holds_has_an_odd_ring(self):
        for web in WEBS + RINGED:
            self.assertTrue(holds_count(web) > 0 or odd_ring(web) is not None)

    def test_half_holds_need_not_be_parts_of_holds(self):
        found = [
            (web, half) for web in WEBS + RINGED for half in subsets(range(web[0]))
            if half_good(web, half) and not any(set(half) <= set(hold) for hold in all_holds(web))
        ]
        self.assertTrue(any(holds_count(web) > 0 for web, half in found))
        self.assertTrue(any(half != () for web, half in found))


class RingsTest(unittest.TestCase):
    """[5.4]"""

    def test_where_all_are_settled_there_is_just_one_hold(self):
        ringed = 0
        for web in WEBS + RINGED:
            if rest_of(web) == ():
                settled = tuple(place for place, mark in enumerate(settled_marks(web)) if mark is True)
                self.assertEqual(all_holds(web), [settled])
                ringed += order_of(web)[0] == "ring"
        self.assertGreater(ringed, 10)

    def test_a_web_without_rings_is_settled(self):
        for web in ringless(WEBS):
            self.assertEqual(rest_of(web), ())
            self.assertNotIn(None, settled_marks(web))

    def test_a_web_of_one_ring_alone(self):
        for many in range(2, 13):
            self.assertEqual(holds_count(ring_of(many)), 0 if many % 2 == 1 else 2)
            self.assertEqual(odd_ring(ring_of(many)) is None, many % 2 == 0)


class GamesTest(unittest.TestCase):
    """[6.5]"""

    def test_each_hold_has_each_lost_place_and_no_won_one(self):
        for web in WEBS + RINGED:
            for hold in all_holds(web):
                for place, outcome in enumerate(outcomes(web)):
                    self.assertNotEqual((outcome, place in hold), ("lost", False))
                    self.assertNotEqual((outcome, place in hold), ("won", True))

    def test_where_no_place_is_open_the_lost_ones_are_the_only_hold(self):
        for web in WEBS + RINGED:
            told = outcomes(web)
            if "open" not in told:
                self.assertEqual(all_holds(web), [tuple(place for place in range(web[0]) if told[place] == "lost")])

    def test_lost_just_where_settled_as_in(self):
        for web in WEBS + RINGED:
            words = {True: "lost", False: "won", None: "open"}
            self.assertEqual(outcomes(web), [words[mark] for mark in settled_marks(web)])

    def test_each_play_has_as_many_moves_as_the_length_of_its_first_place(self):
        for web in SMALL + webs_with(4, 61) + RINGED:
            lengths = lengths_of(web)
            for count in range(1, web[0] + 1):
                for play in itertools.product(range(web[0]), repeat=count):
                    if play_good(web, play):
                        self.assertEqual(len(play) - 1, lengths[play[0]])
            for place in range(web[0]):
                play = play_of(web, place)
                self.assertEqual(None if play is None else len(play) - 1, lengths[place])

    def test_without_rings_lost_just_where_the_number_is_0(self):
        for web in ringless(WEBS):
            self.assertEqual(outcomes(web), ["lost" if number == 0 else "won" for number in numbers_of(web)])


class NumbersTest(unittest.TestCase):
    """[7.5]"""

    def test_good_moves_just_where_the_stones_number_is_not_0(self):
        for web in ringless(SMALL) + [number_web(7)]:
            for count in range(4):
                for stones in itertools.product(range(web[0]), repeat=count):
                    good = good_moves(web, stones)
                    self.assertEqual(good != [], stones_number(web, stones) != 0)
                    for stone, place in good:
                        self.assertEqual(stones_number(web, stones[:stone] + (place,) + stones[stone + 1:]), 0)

    def test_two_stones_on_one_place_are_as_none(self):
        for web in ringless(SMALL) + [number_web(7)]:
            for stones in itertools.product(range(web[0]), repeat=3):
                for place in range(web[0]):
                    self.assertEqual(stones_number(web, stones + (place, place)), stones_number(web, stones))


class HeapsTest(unittest.TestCase):
    """[8.6]"""

    def test_the_heap_web(self):
        for takes in TAKES:
            for most in range(12):
                web = heap_web(takes, most)
                self.assertEqual(list(numbers_of(web)), heap_numbers(takes, most))
                self.assertEqual(all_holds(web), [tuple(zero_heaps(takes, most))])

    def test_a_number_is_at_most_how_many_takes_there_are(self):
        for takes in TAKES:
            self.assertTrue(all(0 <= number <= len(takes) for number in heap_numbers(takes, 1000)))

    def test_far_on_numbers_come_again_by_each_round(self):
        for takes in TAKES:
            start, lap = heap_round(takes)
            for found in ((start, lap), (start + 10, 3 * lap)):
                self.assertIs(round_good(takes, found), True)
                for heap in (found[0], found[0] + 5, 4000, 10 ** 39):
                    self.assertEqual(heap_far(takes, heap), heap_far(takes, heap + found[1]))

    def test_good_takes_just_where_the_heaps_number_is_not_0(self):
        for takes in TAKES:
            for heaps in itertools.product((0, 2, 5, 9), repeat=3):
                self.assertEqual(good_takes(takes, list(heaps)) != [], heaps_number(takes, list(heaps)) != 0)


class MakingTest(unittest.TestCase):
    """[9.5], and what [9.2] to [9.4] tell of holds and numbers"""

    def test_beside_one_another(self):
        for web in SMALL:
            for other in SMALL[::3] + RINGED:
                self.assertEqual(holds_count(beside_web(web, other)), holds_count(web) * holds_count(other))

    def test_both_with_a_web_of_one_place(self):
        for web in WEBS + RINGED:
            self.assertEqual(all_holds(both_web(web, (1, ()))), all_holds(web))
            self.assertEqual(all_holds(both_web((1, ()), web)), all_holds(web))

    def test_put_in_a_web_of_one_place(self):
        for web in WEBS + RINGED:
            self.assertEqual(put_in((1, ()), 0, web), web)

    def test_a_web_and_its_web_of_arrows_have_equally_many_holds(self):
        for web in WEBS + RINGED:
            if web[1] != ():
                of_arrows = all_holds(arrows_web(web))
                self.assertEqual(sorted(hold_to_arrows(web, hold) for hold in all_holds(web)), of_arrows)
                self.assertEqual(sorted(hold_from_arrows(web, hold) for hold in of_arrows), all_holds(web))

    def test_holds_of_a_web_put_in(self):
        for web in SMALL:
            for other in SMALL[::4] + RINGED:
                for place in range(web[0]):
                    without = [hold for hold in all_holds(web) if place not in hold]
                    many = len(without) + (holds_count(web) - len(without)) * holds_count(other)
                    self.assertEqual(holds_count(put_in(web, place, other)), many)


class DeskTest(unittest.TestCase):
    """[10.3] asked of the other modules"""

    def test_a_desk_answers_as_the_other_modules_tell(self):
        for web in WEBS[::4] + RINGED:
            desk = Desk()
            for row in web_shown(web).split("\n"):
                self.assertEqual(desk.say(row), "ok")
            self.assertEqual(desk.say("holds"), str(holds_count(web)))
            self.assertEqual(desk.say("ring") == "odd", odd_ring(web) is not None)
            self.assertEqual(desk.say("settled").split().count("-"), len(rest_of(web)))
            for place, outcome in enumerate(outcomes(web)):
                self.assertEqual(desk.say(f"game {place}").split()[0], outcome)


if __name__ == "__main__":
    unittest.main()
