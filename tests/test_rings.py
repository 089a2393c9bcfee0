"""[5.1] to [5.4]: holdsets.rings."""

import itertools
import unittest

from holdsets.holds import hold_good
from holdsets.marks import one_hold
from holdsets.rings import hold_or_ring, odd_ring, rest_of, settled_marks, sides_good, sides_of
from holdsets.webs import among_web, groups_of, leads_to, ring_good
from tests.helper import (
    counted_webs, drawn_webs, even_webs, great_webs, has_odd_way_back, holds_by_trial, is_hold, is_odd_ring, pairs_of,
    ringless_webs, rings_of, settled_by_layers, small_webs, webs_with, whatever,
)

TWO = (2, ((0, 1), (1, 0)))
THREE = (3, ((0, 1), (1, 2), (2, 0)))
FOUR = (4, ((0, 1), (1, 2), (2, 3), (3, 0)))
PATH = (4, ((0, 1), (1, 2), (2, 3)))
# An odd count of ends between which arrows lead, but no ring: two ways on, of one arrow and of two.
ODD_WAYS = (3, ((0, 1), (0, 2), (1, 2)))
# Two rings of four that share the places 0 and 2, of which one of three comes, and one of five.
SHARED = (6, ((0, 1), (0, 2), (1, 2), (2, 3), (2, 4), (3, 0), (4, 5), (5, 0)))
# Two rings of six that share the places 0 and 3, of which one of five comes, and one of seven.
LONGER = (10, ((0, 1), (0, 6), (1, 2), (2, 3), (3, 4), (3, 7), (4, 5), (5, 0), (6, 3), (7, 8), (8, 9), (9, 0)))


def ring_web(many):
    return (many, tuple(sorted((place, (place + 1) % many) for place in range(many))))


def led_ring_web(many, step):
    """A ring through all places, with a step that shares no factor with their count."""
    return (many, tuple(sorted((place, (place + step) % many) for place in range(many))))


def shifted(web, start):
    """The arrows of a web, its places numbered from the start on."""
    return [(a + start, b + start) for a, b in web[1]]


def all_webs():
    return small_webs() + drawn_webs() + even_webs() + great_webs() + counted_webs() + ringless_webs()


def sides_by_trial(web):
    """Tell all tuples that are sides of a small web by the words of the document."""
    groups = groups_of(web)
    told = []
    for sides in itertools.product((0, 1), repeat=web[0]):
        inner = [(a, b) for a, b in web[1] if any(a in group and b in group for group in groups)]
        if all(sides[a] != sides[b] for a, b in inner) and all(sides[min(group)] == 0 for group in groups):
            told.append(sides)
    return told


class OddRingTest(unittest.TestCase):
    """[5.1]"""

    def test_rings_alone(self):
        for many in range(2, 41):
            ring = odd_ring(ring_web(many))
            if many % 2 == 0:
                self.assertIs(ring, None)
            else:
                self.assertTrue(is_odd_ring(ring_web(many), ring))
                self.assertEqual(len(ring), many)

    def test_rings_in_another_order(self):
        for many, step in ((39, 7), (39, 38), (35, 12), (9, 4), (5, 2)):
            ring = odd_ring(led_ring_web(many, step))
            self.assertTrue(is_odd_ring(led_ring_web(many, step), ring))
            self.assertEqual(len(ring), many)
        self.assertIs(odd_ring(led_ring_web(40, 7)), None)
        self.assertIs(odd_ring(led_ring_web(38, 37)), None)

    def test_none(self):
        for web in ((1, ()), (40, ()), TWO, FOUR, PATH, ODD_WAYS, (4, ((0, 1), (1, 0), (1, 2), (2, 1), (2, 3), (3, 2)))):
            with self.subTest(web=web):
                self.assertIs(odd_ring(web), None)

    def test_odd_ways_that_are_no_rings(self):
        self.assertIs(odd_ring(ODD_WAYS), None)
        self.assertIs(odd_ring((5, ((0, 1), (0, 4), (1, 2), (2, 3), (3, 4)))), None)
        # Two rings of two, joined by arrows that all lead one way: three places in a row of arrows, whichever way they lead.
        self.assertIs(odd_ring((4, ((0, 1), (0, 2), (0, 3), (1, 0), (1, 2), (1, 3), (2, 3), (3, 2)))), None)
        # A ring of four from which an odd way leads off, and one to which an odd way leads.
        self.assertIs(odd_ring((7, FOUR[1] + ((3, 4), (4, 5), (5, 6)))), None)
        self.assertIs(odd_ring((7, FOUR[1] + ((4, 5), (5, 6), (6, 0)))), None)

    def test_a_ring_within_one_group(self):
        # Groups below and above have even rings alone.
        arrows = shifted(FOUR, 0) + [(0, 4)] + shifted(THREE, 4) + [(5, 7)] + shifted(FOUR, 7)
        web = (11, tuple(sorted(arrows)))
        self.assertEqual(sorted(odd_ring(web)), [4, 5, 6])
        self.assertTrue(is_odd_ring(web, odd_ring(web)))
        # Five places in all, but the arrows between the groups are of no ring.
        self.assertIs(odd_ring((6, tuple(sorted(shifted(TWO, 0) + [(1, 2)] + shifted(FOUR, 2))))), None)

    def test_an_odd_ring_that_comes_of_two_even_ones(self):
        for web, even in ((SHARED, [(0, 1, 2, 3), (0, 2, 4, 5)]), (LONGER, [(0, 1, 2, 3, 4, 5), (0, 6, 3, 7, 8, 9)])):
            arrows = {arrow for ring in even for arrow in zip(ring, ring[1:] + ring[:1])}
            self.assertEqual(arrows, set(web[1]))
            self.assertTrue(is_odd_ring(web, odd_ring(web)))
            for ring in even:
                self.assertIs(odd_ring((web[0], tuple(sorted(zip(ring, ring[1:] + ring[:1]))))), None)

    def test_even_rings_that_share_places_without_an_odd_one(self):
        self.assertIs(odd_ring((6, ((0, 1), (1, 2), (1, 4), (2, 3), (3, 0), (4, 5), (5, 0)))), None)
        # The rings 0 1 2 3 and 2 1 4 5 share two places in turned order: 0 1 4 5 2 3 is even, too.
        self.assertIs(odd_ring((6, ((0, 1), (1, 2), (1, 4), (2, 1), (2, 3), (3, 0), (4, 5), (5, 2)))), None)

    def test_two_rings_that_share_one_place_alone(self):
        # Of a ring of three and one of two no ring comes: the way through both is odd but has a place twice.
        web = (4, ((0, 1), (0, 3), (1, 2), (2, 0), (3, 0)))
        self.assertEqual(sorted(odd_ring(web)), [0, 1, 2])
        # From 3 the least odd way back goes by 0 twice.
        self.assertTrue(is_odd_ring(web, odd_ring(web)))
        bows = (7, ((0, 1), (1, 2), (2, 0), (2, 3), (3, 4), (4, 5), (5, 6), (6, 2)))
        self.assertTrue(is_odd_ring(bows, odd_ring(bows)))

    def test_odd_ways_back_that_have_a_place_twice(self):
        # Many ways of five arrows lead back here that have a place twice; however the places are numbered, a ring is told.
        arrows = ((0, 2), (0, 3), (0, 4), (1, 4), (2, 1), (2, 3), (3, 1), (4, 0), (4, 2), (4, 5), (5, 2), (5, 3), (5, 4))
        for numbers in itertools.permutations(range(6)):
            web = (6, tuple(sorted((numbers[a], numbers[b]) for a, b in arrows)))
            self.assertTrue(is_odd_ring(web, odd_ring(web)))

    def test_all_small_webs(self):
        for web in small_webs() + webs_with(4, 5) + webs_with(5, 8191):
            odd = [ring for ring in rings_of(web) if len(ring) % 2]
            ring = odd_ring(web)
            if odd:
                self.assertIn(ring, odd)
            else:
                self.assertIs(ring, None)

    def test_webs_of_one_to_forty_places(self):
        some = 0
        for web in all_webs():
            ring = odd_ring(web)
            if has_odd_way_back(web):
                some += 1
                self.assertTrue(is_odd_ring(web, ring))
                self.assertIs(ring_good(web, ring), True)
            else:
                self.assertIs(ring, None)
        self.assertGreater(some, 100)

    def test_webs_without_odd_rings(self):
        ringed = 0
        for web in even_webs():
            self.assertIs(odd_ring(web), None)
            ringed += len(groups_of(web)) < web[0]
        self.assertGreater(ringed, 60)

    def test_one_arrow_more_makes_it_odd(self):
        web = (40, tuple(sorted([(place, (place + 1) % 40) for place in range(40)] + [(0, 2)])))
        self.assertEqual(len(odd_ring(web)), 39)
        self.assertTrue(is_odd_ring(web, odd_ring(web)))
        self.assertIs(odd_ring((40, tuple(sorted(ring_web(40)[1] + ((0, 3),))))), None)


class SidesTest(unittest.TestCase):
    """[5.1]"""

    def test_sides_told(self):
        for web, sides in (
            ((1, ()), (0,)), ((3, ()), (0, 0, 0)), (TWO, (0, 1)), (FOUR, (0, 1, 0, 1)), (PATH, (0, 0, 0, 0)),
            (ODD_WAYS, (0, 0, 0)), ((4, ((0, 3), (1, 2), (2, 1), (3, 0))), (0, 0, 1, 1)),
            ((5, ((0, 1), (1, 2), (2, 1), (2, 3), (3, 4), (4, 3))), (0, 0, 1, 0, 1)),
            ((4, ((0, 2), (1, 3), (2, 1), (3, 0))), (0, 0, 1, 1)),
        ):
            with self.subTest(web=web):
                self.assertEqual(repr(sides_of(web)), repr(sides))
                self.assertIs(sides_good(web, sides), True)

    def test_none_just_where_there_is_an_odd_ring(self):
        for web in all_webs():
            sides = sides_of(web)
            self.assertEqual(sides is None, has_odd_way_back(web))
            self.assertEqual(sides is None, odd_ring(web) is not None)

    def test_just_one_such(self):
        for web in small_webs() + webs_with(4, 5) + webs_with(5, 8191):
            sides = sides_of(web)
            self.assertEqual(sides_by_trial(web), [] if sides is None else [sides])

    def test_what_sides_are(self):
        for web in even_webs() + ringless_webs():
            sides = sides_of(web)
            self.assertIsInstance(sides, tuple)
            self.assertEqual(len(sides), web[0])
            self.assertTrue(all(repr(side) in ("0", "1") for side in sides))
            for group in groups_of(web):
                self.assertEqual(sides[group[0]], 0)
                self.assertTrue(all(sides[a] != sides[b] for a, b in web[1] if a in group and b in group))
            self.assertIs(sides_good(web, sides), True)

    def test_all_tuples_of_sides(self):
        for web in small_webs() + [SHARED, (5, ((0, 1), (1, 2), (2, 1), (2, 3), (3, 4), (4, 3)))]:
            right = sides_by_trial(web)
            for sides in itertools.product((0, 1), repeat=web[0]):
                self.assertIs(sides_good(web, sides), sides in right)

    def test_another_side_at_one_place(self):
        for web in even_webs():
            sides = sides_of(web)
            for place in range(web[0]):
                other = sides[:place] + (1 - sides[place],) + sides[place + 1:]
                self.assertIs(sides_good(web, other), False)

    def test_other_things_for_a_side(self):
        for thing in (2, -1, 10 ** 99, True, False, None, "0", "", (), (0,), [], [0], {}):
            for web, place in ((FOUR, 0), (FOUR, 1), (FOUR, 3), ((1, ()), 0), (PATH, 2)):
                sides = sides_of(web)
                with self.subTest(thing=thing, web=web, place=place):
                    self.assertIs(sides_good(web, sides[:place] + (thing,) + sides[place + 1:]), False)
        self.assertIs(sides_good(FOUR, (False, True, False, True)), False)
        self.assertIs(sides_good(FOUR, (0, 2, 0, 2)), False)
        self.assertIs(sides_good(FOUR, (2, 1, 2, 1)), False)
        self.assertIs(sides_good(FOUR, (1, 0, 1, 0)), False)

    def test_one_more_or_fewer_and_lists(self):
        for web in even_webs():
            sides = sides_of(web)
            for thing in (sides[:-1], sides[1:], sides + (0,), sides + (1,), (0,) + sides, list(sides), (sides,), [sides],
                          dict(enumerate(sides)), repr(sides), None, ()):
                self.assertIs(sides_good(web, thing), False)

    def test_false_of_everything_where_there_is_an_odd_ring(self):
        for web in (THREE, SHARED, LONGER, ring_web(39), (4, THREE[1])):
            for thing in whatever() + [(0,) * web[0], (0, 1, 0, 1, 1, 0), (0, 1, 0, 1, 0, 1), (0, 1, 0, 0), None]:
                self.assertIs(sides_good(web, thing), False)
        for sides in itertools.product((0, 1), repeat=10):
            self.assertIs(sides_good(LONGER, sides), False)

    def test_whatever(self):
        for web in ((1, ()), (2, ()), TWO, FOUR, PATH, THREE):
            right = [repr(sides) for sides in sides_by_trial(web)]
            for thing in whatever():
                with self.subTest(web=web, thing=thing):
                    self.assertIs(sides_good(web, thing), repr(thing) in right)


class HoldOrRingTest(unittest.TestCase):
    """[5.2]"""

    def right(self, web):
        told = hold_or_ring(web)
        self.assertIsInstance(told, tuple)
        word, thing = told
        if has_odd_way_back(web):
            self.assertEqual(word, "ring")
            self.assertTrue(is_odd_ring(web, thing))
            self.assertIs(ring_good(web, thing), True)
        else:
            self.assertEqual(word, "hold")
            self.assertTrue(is_hold(web, thing))
            self.assertIs(hold_good(web, thing), True)

    def test_told(self):
        self.assertEqual(hold_or_ring((1, ())), ("hold", (0,)))
        self.assertEqual(hold_or_ring(PATH), ("hold", (1, 3)))
        self.assertIn(hold_or_ring(TWO), (("hold", (0,)), ("hold", (1,))))
        self.assertIn(hold_or_ring(FOUR), (("hold", (0, 2)), ("hold", (1, 3))))
        self.assertEqual(sorted(hold_or_ring(THREE)[1]), [0, 1, 2])

    def test_small_webs(self):
        for web in small_webs() + webs_with(4, 5) + webs_with(5, 4099):
            self.right(web)

    def test_webs_of_one_to_forty_places(self):
        for web in drawn_webs() + great_webs() + counted_webs() + ringless_webs() + [SHARED, LONGER, ring_web(40), ring_web(39)]:
            self.right(web)

    def test_webs_without_odd_rings_have_holds(self):
        for web in even_webs():
            word, hold = hold_or_ring(web)
            self.assertEqual(word, "hold")
            self.assertTrue(is_hold(web, hold))

    def test_forty_places_and_two_hundred_arrows(self):
        sides = (40, tuple((a, b) for a, b in pairs_of(40) if (a + b) % 2)[::4][:200])
        down = (40, tuple((a, b) for a, b in pairs_of(40) if a > b)[::3][:200])
        for web in (sides, down, (40, tuple(pairs_of(40)[:200]))):
            self.assertEqual(len(web[1]), 200)
            self.right(web)
        self.assertTrue(any(web[0] == 40 and len(web[1]) == 200 for web in even_webs()))

    def test_groups_that_fall_apart(self):
        # The place 4 leads nowhere; what leads there is out, and a group above is no longer one.
        web = (7, ((0, 1), (0, 4), (1, 2), (2, 3), (3, 0), (5, 1), (5, 6), (6, 5)))
        self.right(web)
        self.assertIn(hold_or_ring(web)[1], holds_by_trial(web))

    def test_a_web_that_has_no_hold_has_an_odd_ring(self):
        none = 0
        for web in small_webs() + webs_with(4, 7) + counted_webs():
            if not holds_by_trial(web):
                none += 1
                self.assertEqual(hold_or_ring(web)[0], "ring")
        self.assertGreater(none, 10)

    def test_a_web_with_odd_rings_may_have_holds(self):
        web = (4, ((0, 1), (1, 2), (2, 0), (2, 3)))
        self.assertEqual(holds_by_trial(web), [(1, 3)])
        self.assertEqual(hold_or_ring(web)[0], "ring")
        self.assertTrue(is_odd_ring(web, hold_or_ring(web)[1]))


class SettledTest(unittest.TestCase):
    """[5.3]"""

    def test_told(self):
        for web, marks in (
            ((1, ()), [True]), ((3, ()), [True] * 3), (PATH, [False, True, False, True]),
            (TWO, [None, None]), (THREE, [None] * 3),
            ((3, ((0, 1), (1, 0), (1, 2))), [True, False, True]),
            ((4, ((0, 1), (1, 2), (2, 1), (2, 3), (3, 2))), [None] * 4),
            ((5, ((0, 1), (1, 0), (2, 0), (2, 3), (4, 2))), [None, None, False, True, True]),
            ((5, ((0, 1), (1, 0), (2, 0), (2, 3), (3, 4))), [None, None, None, False, True]),
        ):
            with self.subTest(web=web):
                self.assertEqual(repr(settled_marks(web)), repr(marks))
                rest = tuple(place for place in range(web[0]) if marks[place] is None)
                self.assertEqual(repr(rest_of(web)), repr(rest))

    def test_in_where_it_leads_nowhere(self):
        for web in all_webs():
            marks = settled_marks(web)
            for place in range(web[0]):
                if not leads_to(web, place):
                    self.assertIs(marks[place], True)

    def test_settled_by_what_lies_beneath(self):
        for web in all_webs():
            marks = settled_marks(web)
            self.assertIsInstance(marks, list)
            self.assertEqual(repr(marks), repr(settled_by_layers(web)))
            for place in range(web[0]):
                beneath = [marks[b] for b in leads_to(web, place)]
                if marks[place] is True:
                    self.assertTrue(all(mark is False for mark in beneath))
                elif marks[place] is False:
                    self.assertTrue(any(mark is True for mark in beneath))
                else:
                    self.assertIs(marks[place], None)
                    self.assertIn(None, beneath)
                    self.assertNotIn(True, beneath)

    def test_long_ways(self):
        up = (40, tuple((place, place + 1) for place in range(39)))
        self.assertEqual(settled_marks(up), [False, True] * 20)
        ringed = (40, tuple((place, place + 1) for place in range(39)) + ((39, 38),))
        self.assertEqual(settled_marks(ringed), [None] * 40)
        self.assertEqual(rest_of(ringed), tuple(range(40)))
        # A ring whose places all lead off it, but to a place that is out.
        out = (5, ((0, 1), (0, 3), (1, 2), (1, 3), (2, 0), (2, 3), (3, 4)))
        self.assertEqual(settled_marks(out), [None, None, None, False, True])

    def test_each_hold_has_all_that_are_in_and_none_that_is_out(self):
        for web in small_webs() + webs_with(4, 7) + counted_webs():
            marks = settled_marks(web)
            for hold in holds_by_trial(web):
                for place in range(web[0]):
                    self.assertIn(marks[place], (None, place in hold))

    def test_each_of_the_rest_leads_to_one_of_them(self):
        for web in all_webs():
            rest = rest_of(web)
            self.assertIsInstance(rest, tuple)
            self.assertEqual(rest, tuple(place for place, mark in enumerate(settled_marks(web)) if mark is None))
            for place in rest:
                self.assertTrue(set(leads_to(web, place)) & set(rest))

    def test_holds_are_made_of_those_of_the_rest(self):
        some = 0
        for web in small_webs() + webs_with(4, 7) + counted_webs():
            rest = rest_of(web)
            if rest:
                inside = [place for place, mark in enumerate(settled_marks(web)) if mark is True]
                made = [
                    tuple(sorted(inside + [rest[number] for number in hold])) for hold in holds_by_trial(among_web(web, rest))
                ]
                some += len(made) > 0 and len(rest) < web[0]
                self.assertEqual(sorted(made), holds_by_trial(web))
                self.assertEqual(len(set(made)), len(made))
        self.assertGreater(some, 20)


class SoTest(unittest.TestCase):
    """[5.4]"""

    def test_where_all_places_are_settled_there_is_just_one_hold(self):
        ringed = 0
        for web in small_webs() + webs_with(4, 7) + counted_webs():
            if rest_of(web) == ():
                ringed += len(groups_of(web)) < web[0]
                inside = tuple(place for place, mark in enumerate(settled_marks(web)) if mark is True)
                self.assertEqual(holds_by_trial(web), [inside])
        self.assertGreater(ringed, 20)

    def test_a_web_without_rings_is_settled_all_of_it(self):
        for web in ringless_webs() + [web for web in small_webs() if not rings_of(web)]:
            self.assertEqual(rest_of(web), ())
            self.assertNotIn(None, settled_marks(web))
            self.assertEqual(tuple(place for place, mark in enumerate(settled_marks(web)) if mark), one_hold(web))

    def test_a_web_of_one_ring_alone(self):
        for many in range(2, 13):
            web = ring_web(many)
            self.assertEqual(settled_marks(web), [None] * many)
            self.assertEqual(len(holds_by_trial(web)), 0 if many % 2 else 2)
            self.assertEqual(hold_or_ring(web)[0], "ring" if many % 2 else "hold")
        for many in (3, 5, 39):
            self.assertEqual(sorted(odd_ring(led_ring_web(many, many - 1))), list(range(many)))
        for many in (4, 6, 40):
            self.assertIs(hold_good(ring_web(many), tuple(range(0, many, 2))), True)
            self.assertIs(hold_good(ring_web(many), tuple(range(1, many, 2))), True)
            self.assertEqual(sides_of(ring_web(many)), (0, 1) * (many // 2))


if __name__ == "__main__":
    unittest.main()
