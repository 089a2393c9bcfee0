"""[9.1] to [9.5]: webs made of webs."""

import random
import unittest

from holdsets.counting import all_holds, holds_count
from holdsets.errors import NoArrow, NoHold, NoPlace, TooGreat
from holdsets.holds import hold_good
from holdsets.making import arrows_web, beside_web, both_web, hold_from_arrows, hold_to_arrows, put_in
from holdsets.marks import one_hold
from holdsets.numbers import numbers_of, together_of
from holdsets.webs import order_of, web_good
from tests.helper import (
    drawn_webs, holds_by_trial, is_hold, is_place, is_rising_places, pairs_of, ringless_webs, small_webs, webs_with, whatever,
)

ONE = (1, ())
TWO = (2, ((0, 1), (1, 0)))
PATH = (3, ((0, 1), (1, 2)))
THREE = (3, ((0, 1), (1, 2), (2, 0)))
FIVE = (5, ((0, 1), (1, 2), (2, 3), (3, 4), (4, 0)))


def first_arrows(many, count):
    """A web of so many places and arrows."""
    return (many, tuple(pairs_of(many)[:count]))


def star(ahead, behind):
    """A web in which so many places lead to the place 0, and this leads to so many others."""
    many = 1 + ahead + behind
    return (many, tuple((0, b) for b in range(1 + ahead, many)) + tuple((a, 0) for a in range(1, 1 + ahead)))


def pairs_drawn(count, seed, most):
    """Some pairs of webs, both of at most so many places."""
    drawn = random.Random(seed)
    webs = small_webs() + [web for web in drawn_webs() if web[0] <= most]
    return [(drawn.choice(webs), drawn.choice(webs)) for _ in range(count)]


def named_web(names, pairs):
    """Tell the web of places with names, numbered in their order, and with pairs of such as arrows."""
    return (len(names), tuple(sorted((names.index(a), names.index(b)) for a, b in pairs)))


def beside_by_names(web, other):
    names = [("one", a) for a in range(web[0])] + [("other", a) for a in range(other[0])]
    pairs = [(("one", a), ("one", b)) for a, b in web[1]] + [(("other", a), ("other", b)) for a, b in other[1]]
    return named_web(names, pairs)


def both_by_names(web, other):
    names = sorted((a, b) for a in range(web[0]) for b in range(other[0]))
    pairs = [
        (here, there) for here in names for there in names
        if here[1] == there[1] and (here[0], there[0]) in web[1] or here[0] == there[0] and (here[1], there[1]) in other[1]
    ]
    return named_web(names, pairs)


def arrows_by_names(web):
    return named_web(list(web[1]), [(one, other) for one in web[1] for other in web[1] if one[1] == other[0]])


def put_in_by_names(web, place, other):
    old = [("old", a) for a in range(web[0]) if a != place]
    new = [("new", a) for a in range(other[0])]
    pairs = [(("old", a), ("old", b)) for a, b in web[1] if place not in (a, b)]
    pairs += [(("new", a), ("new", b)) for a, b in other[1]]
    pairs += [(("old", a), name) for a, b in web[1] if b == place for name in new]
    pairs += [(name, ("old", b)) for a, b in web[1] if a == place for name in new]
    return named_web(old + new, pairs)


def fits(web):
    return web[0] <= 40 and len(web[1]) <= 200


class MakingTestCase(unittest.TestCase):
    def refused(self, kind, fields, ask, *things):
        with self.assertRaises(kind) as caught:
            ask(*things)
        self.assertIs(type(caught.exception), kind)
        self.assertEqual(vars(caught.exception), fields)

    def too_great(self, many, most, ask, *things):
        self.refused(TooGreat, {"many": many, "most": most}, ask, *things)

    def told_or_too_great(self, by_names, ask, *things):
        """Told as by names where this is no more than a web may be, else refused with how many there are."""
        if fits(by_names):
            told = ask(*things)
            self.assertEqual(told, by_names)
            self.assertIs(web_good(told), True)
        elif by_names[0] > 40:
            self.too_great(by_names[0], 40, ask, *things)
        else:
            self.too_great(len(by_names[1]), 200, ask, *things)


class BesideTest(MakingTestCase):
    """[9.1]"""

    def test_by_hand(self):
        self.assertEqual(beside_web(ONE, ONE), (2, ()))
        self.assertEqual(beside_web(PATH, TWO), (5, ((0, 1), (1, 2), (3, 4), (4, 3))))
        self.assertEqual(beside_web(TWO, PATH), (5, ((0, 1), (1, 0), (2, 3), (3, 4))))

    def test_by_names(self):
        for web, other in pairs_drawn(300, 11, 40):
            self.told_or_too_great(beside_by_names(web, other), beside_web, web, other)

    def test_places_at_the_edge(self):
        self.assertEqual(beside_web((20, ()), (20, ())), (40, ()))
        self.assertEqual(beside_web((39, ()), ONE), (40, ()))
        self.too_great(41, 40, beside_web, (20, ()), (21, ()))
        self.too_great(41, 40, beside_web, (40, ()), ONE)
        self.too_great(41, 40, beside_web, ONE, (40, ()))
        self.too_great(80, 40, beside_web, (40, ()), (40, ()))

    def test_arrows_at_the_edge(self):
        web = beside_web(first_arrows(20, 100), first_arrows(20, 100))
        self.assertEqual((web[0], len(web[1])), (40, 200))
        self.assertIs(web_good(web), True)
        self.too_great(201, 200, beside_web, first_arrows(20, 101), first_arrows(20, 100))
        self.too_great(201, 200, beside_web, first_arrows(20, 100), first_arrows(20, 101))
        self.too_great(400, 200, beside_web, first_arrows(20, 200), first_arrows(20, 200))
        self.assertEqual(len(beside_web(first_arrows(20, 200), (20, ()))[1]), 200)

    def test_places_go_ahead_of_arrows(self):
        self.too_great(41, 40, beside_web, first_arrows(20, 101), first_arrows(21, 100))
        self.too_great(60, 40, beside_web, first_arrows(30, 200), first_arrows(30, 200))


class BothTest(MakingTestCase):
    """[9.2]"""

    def test_by_hand(self):
        self.assertEqual(both_web(ONE, ONE), ONE)
        self.assertEqual(both_web((2, ((0, 1),)), (2, ((1, 0),))), (4, ((0, 2), (1, 0), (1, 3), (3, 2))))
        # The places of the pairs (0, 0), (0, 1), (1, 0), (1, 1), (2, 0), (2, 1).
        self.assertEqual(both_web(PATH, (2, ())), (6, ((0, 2), (1, 3), (2, 4), (3, 5))))
        # The places of the pairs (0, 0), (0, 1), (0, 2), (1, 0), (1, 1), (1, 2).
        self.assertEqual(both_web((2, ()), PATH), (6, ((0, 1), (1, 2), (3, 4), (4, 5))))
        self.assertEqual(both_web(TWO, TWO), (4, ((0, 1), (0, 2), (1, 0), (1, 3), (2, 0), (2, 3), (3, 1), (3, 2))))

    def test_by_names(self):
        for web, other in pairs_drawn(300, 12, 9) + [(FIVE, (8, ((0, 7), (3, 1)))), ((8, ((0, 7), (3, 1))), FIVE)]:
            self.told_or_too_great(both_by_names(web, other), both_web, web, other)

    def test_places_at_the_edge(self):
        self.assertEqual(both_web((8, ()), (5, ())), (40, ()))
        self.assertEqual(both_web((40, ()), ONE), (40, ()))
        self.assertEqual(both_web(ONE, (40, ())), (40, ()))
        self.too_great(42, 40, both_web, (21, ()), (2, ()))
        self.too_great(42, 40, both_web, (6, ()), (7, ()))
        self.too_great(1600, 40, both_web, (40, ()), (40, ()))

    def test_arrows_at_the_edge(self):
        web = both_web(first_arrows(4, 12), first_arrows(10, 20))
        self.assertEqual((web[0], len(web[1])), (40, 200))
        self.assertIs(web_good(web), True)
        web = both_web(first_arrows(3, 5), first_arrows(13, 45))
        self.assertEqual((web[0], len(web[1])), (39, 200))
        self.too_great(201, 200, both_web, first_arrows(3, 6), first_arrows(13, 41))
        self.too_great(201, 200, both_web, first_arrows(13, 41), first_arrows(3, 6))
        self.too_great(204, 200, both_web, first_arrows(4, 12), first_arrows(10, 21))

    def test_places_go_ahead_of_arrows(self):
        self.too_great(42, 40, both_web, first_arrows(6, 30), first_arrows(7, 42))
        self.too_great(1600, 40, both_web, first_arrows(40, 200), first_arrows(40, 200))

    def test_its_numbers_are_those_of_both_together(self):
        drawn = random.Random(13)
        webs = [web for web in small_webs() + ringless_webs() if order_of(web)[0] == "order"]
        told = 0
        for _ in range(400):
            web, other = drawn.choice(webs), drawn.choice(webs)
            if fits((web[0] * other[0], (None,) * (web[0] * len(other[1]) + other[0] * len(web[1])))):
                told += 1
                one, two = numbers_of(web), numbers_of(other)
                together = [together_of([one[a], two[b]]) for a in range(web[0]) for b in range(other[0])]
                self.assertEqual(numbers_of(both_web(web, other)), tuple(together))
        self.assertGreater(told, 60)


class ArrowsTest(MakingTestCase):
    """[9.3]"""

    def test_by_hand(self):
        self.assertEqual(arrows_web((2, ((0, 1),))), (1, ()))
        self.assertEqual(arrows_web(TWO), TWO)
        self.assertEqual(arrows_web(PATH), (2, ((0, 1),)))
        self.assertEqual(arrows_web(THREE), THREE)
        # The arrows (0, 2), (1, 2), (2, 0), (2, 3), numbered 0 to 3.
        self.assertEqual(arrows_web((4, ((0, 2), (1, 2), (2, 0), (2, 3)))), (4, ((0, 2), (0, 3), (1, 2), (1, 3), (2, 0))))

    def test_by_names(self):
        for web in small_webs() + drawn_webs():
            if web[1] == ():
                self.refused(NoArrow, {}, arrows_web, web)
            else:
                self.told_or_too_great(arrows_by_names(web), arrows_web, web)

    def test_no_arrow(self):
        for many in (1, 2, 40):
            self.refused(NoArrow, {}, arrows_web, (many, ()))

    def test_places_at_the_edge(self):
        self.assertEqual(arrows_web((40, tuple((0, b) for b in range(1, 40)) + ((1, 2),)))[0], 40)
        path = tuple((place, place + 1) for place in range(39))
        self.assertEqual(arrows_web((40, path)), (39, path[:-1]))
        self.too_great(41, 40, arrows_web, (40, tuple(sorted(path + ((0, 39), (0, 38))))))
        self.too_great(200, 40, arrows_web, first_arrows(40, 200))

    def test_arrows_at_the_edge(self):
        web = arrows_web(star(20, 10))
        self.assertEqual((web[0], len(web[1])), (30, 200))
        self.assertIs(web_good(web), True)
        self.too_great(201, 200, arrows_web, beside_web(star(20, 10), PATH))
        self.too_great(210, 200, arrows_web, star(21, 10))

    def test_places_go_ahead_of_arrows(self):
        self.too_great(41, 40, arrows_web, (42, star(21, 20)[1]))
        self.too_great(42, 40, arrows_web, first_arrows(7, 42))


class HoldsOfArrowsTest(MakingTestCase):
    """[9.3]"""

    def webs(self):
        return [web for web in small_webs() + webs_with(4, 29) if web[1] != ()]

    def test_by_hand(self):
        self.assertEqual(hold_to_arrows(PATH, (0, 2)), (1,))
        self.assertEqual(hold_from_arrows(PATH, (1,)), (0, 2))
        self.assertEqual(hold_to_arrows(TWO, (0,)), (1,))
        self.assertEqual(hold_to_arrows(TWO, (1,)), (0,))
        self.assertEqual(hold_from_arrows(TWO, (0,)), (1,))
        self.assertEqual(hold_to_arrows((3, ((2, 0),)), (0, 1)), (0,))
        self.assertEqual(hold_from_arrows((3, ((2, 0),)), (0,)), (0, 1))

    def test_to_arrows_by_words(self):
        for web in self.webs():
            of_arrows = arrows_by_names(web)
            for hold in holds_by_trial(web):
                told = hold_to_arrows(web, hold)
                self.assertEqual(told, tuple(number for number, (a, b) in enumerate(web[1]) if b in hold))
                self.assertIs(is_hold(of_arrows, told), True)

    def test_from_arrows_by_words(self):
        for web in self.webs():
            for hold in all_holds(arrows_by_names(web)):
                told = hold_from_arrows(web, hold)
                inside = [web[1][number] for number in hold]
                self.assertEqual(told, tuple(place for place in range(web[0]) if not any(a == place for a, b in inside)))
                self.assertIs(is_hold(web, told), True)

    def test_there_and_back(self):
        for web in self.webs():
            holds = holds_by_trial(web)
            of_arrows = all_holds(arrows_web(web))
            self.assertEqual([hold_from_arrows(web, hold_to_arrows(web, hold)) for hold in holds], holds)
            self.assertEqual([hold_to_arrows(web, hold_from_arrows(web, hold)) for hold in of_arrows], of_arrows)
            self.assertEqual(sorted(hold_to_arrows(web, hold) for hold in holds), of_arrows)
            self.assertEqual(len(holds), holds_count(arrows_web(web)))

    def test_great_webs(self):
        web = beside_web(star(20, 10), (9, ()))
        hold = one_hold(web)
        self.assertIs(hold_good(arrows_web(web), hold_to_arrows(web, hold)), True)
        self.assertEqual(hold_from_arrows(web, hold_to_arrows(web, hold)), hold)

    def test_no_arrow_goes_ahead(self):
        for thing in whatever():
            for many in (1, 2, 40):
                self.refused(NoArrow, {}, hold_to_arrows, (many, ()), thing)
                self.refused(NoArrow, {}, hold_from_arrows, (many, ()), thing)
        self.refused(NoArrow, {}, hold_to_arrows, (2, ()), (0, 1))

    def test_too_great_goes_ahead_of_no_hold(self):
        many = first_arrows(40, 41)
        dense = beside_web(star(20, 10), PATH)
        for ask in (hold_to_arrows, hold_from_arrows):
            for thing in whatever():
                self.too_great(41, 40, ask, many, thing)
                self.too_great(201, 200, ask, dense, thing)
        self.too_great(201, 200, hold_to_arrows, dense, one_hold(dense))

    def test_no_hold(self):
        for web in (PATH, TWO, THREE, (4, ((0, 1), (1, 0), (2, 3)))):
            of_arrows = arrows_by_names(web)
            for thing in whatever():
                for ask, of in ((hold_to_arrows, web), (hold_from_arrows, of_arrows)):
                    with self.subTest(ask=ask.__name__, web=web, thing=thing):
                        if is_rising_places(of, thing) and is_hold(of, thing):
                            ask(web, thing)
                        else:
                            self.refused(NoHold, {}, ask, web, thing)

    def test_no_hold_of_the_other_web(self):
        # The hold of the web is none of its arrows, and the other way.
        self.refused(NoHold, {}, hold_to_arrows, PATH, (1,))
        self.refused(NoHold, {}, hold_from_arrows, PATH, (0, 2))
        self.refused(NoHold, {}, hold_from_arrows, PATH, (0,))
        self.refused(NoHold, {}, hold_from_arrows, PATH, (0, 1))
        self.refused(NoHold, {}, hold_to_arrows, PATH, [0, 2])
        self.refused(NoHold, {}, hold_to_arrows, PATH, (2, 0))
        self.refused(NoHold, {}, hold_to_arrows, TWO, (False,))
        self.refused(NoHold, {}, hold_from_arrows, TWO, (True,))


class PutInTest(MakingTestCase):
    """[9.4]"""

    def test_by_hand(self):
        # 0 and 1 stay, 2 becomes the places 2 and 3.
        self.assertEqual(put_in(PATH, 2, TWO), (4, ((0, 1), (1, 2), (1, 3), (2, 3), (3, 2))))
        # 0 and 2 become 0 and 1, 1 becomes the places 2 and 3.
        self.assertEqual(put_in(PATH, 1, TWO), (4, ((0, 2), (0, 3), (2, 1), (2, 3), (3, 1), (3, 2))))
        # 1 and 2 become 0 and 1, 0 becomes the places 2 and 3.
        self.assertEqual(put_in(PATH, 0, (2, ())), (4, ((0, 1), (2, 0), (3, 0))))
        self.assertEqual(put_in(TWO, 0, ONE), (2, ((0, 1), (1, 0))))
        self.assertEqual(put_in(PATH, 0, ONE), (3, ((0, 1), (2, 0))))

    def test_by_names(self):
        for web, other in pairs_drawn(200, 14, 12):
            for place in range(web[0]):
                self.told_or_too_great(put_in_by_names(web, place, other), put_in, web, place, other)
        for web, other in pairs_drawn(60, 15, 40):
            for place in {0, web[0] // 2, web[0] - 1}:
                self.told_or_too_great(put_in_by_names(web, place, other), put_in, web, place, other)

    def test_places_at_the_edge(self):
        self.assertEqual(put_in((21, ()), 5, (20, ())), (40, ()))
        self.assertEqual(put_in(ONE, 0, (40, ())), (40, ()))
        self.assertEqual(put_in((40, ()), 39, ONE), (40, ()))
        self.too_great(41, 40, put_in, (21, ()), 5, (21, ()))
        self.too_great(41, 40, put_in, (40, ()), 0, (2, ()))
        self.too_great(79, 40, put_in, (40, ()), 0, (40, ()))

    def test_arrows_at_the_edge(self):
        # 10 arrows to each of 20 places.
        web = put_in(star(10, 0), 0, (20, ()))
        self.assertEqual((web[0], len(web[1])), (30, 200))
        self.assertIs(web_good(web), True)
        self.too_great(201, 200, put_in, star(10, 0), 0, (20, ((0, 1),)))
        web = put_in(star(5, 5), 0, (20, ()))
        self.assertEqual((web[0], len(web[1])), (30, 200))
        self.too_great(220, 200, put_in, star(5, 6), 0, (20, ()))

    def test_places_go_ahead_of_arrows(self):
        self.too_great(41, 40, put_in, star(20, 0), 0, (21, ()))
        self.too_great(79, 40, put_in, first_arrows(40, 200), 0, first_arrows(40, 200))

    def test_no_place(self):
        for web in (ONE, TWO, PATH, (40, ())):
            for thing in whatever():
                for other in (ONE, THREE, first_arrows(40, 200)):
                    with self.subTest(web=web, thing=thing):
                        if not is_place(web, thing):
                            self.refused(NoPlace, {}, put_in, web, thing, other)
                        elif fits(put_in_by_names(web, thing, other)):
                            put_in(web, thing, other)
        self.refused(NoPlace, {}, put_in, TWO, True, ONE)
        self.refused(NoPlace, {}, put_in, TWO, 2, ONE)
        self.refused(NoPlace, {}, put_in, TWO, -1, ONE)

    def test_its_holds(self):
        told = 0
        for web, other in pairs_drawn(250, 16, 6):
            if web[0] + other[0] > 9:
                continue
            for place in range(web[0]):
                kept = [old for old in range(web[0]) if old != place]
                wanted = []
                for hold in holds_by_trial(web):
                    old = tuple(kept.index(part) for part in hold if part != place)
                    if place in hold:
                        wanted += [old + tuple(len(kept) + part for part in put) for put in holds_by_trial(other)]
                    else:
                        wanted.append(old)
                told += len(wanted) > 1
                self.assertEqual(all_holds(put_in(web, place, other)), sorted(wanted))
        self.assertGreater(told, 50)


class SentencesTest(unittest.TestCase):
    """[9.5]"""

    def test_beside_one_another_holds_are_multiplied(self):
        for web, other in pairs_drawn(200, 17, 6):
            beside = beside_web(web, other)
            self.assertEqual(holds_count(beside), holds_count(web) * holds_count(other))
            joined = [one + tuple(web[0] + place for place in two) for one in all_holds(web) for two in all_holds(other)]
            self.assertEqual(all_holds(beside), sorted(joined))

    def test_both_with_a_web_of_one_place(self):
        for web in small_webs() + [web for web in drawn_webs() if web[0] <= 10]:
            self.assertEqual(all_holds(both_web(web, ONE)), all_holds(web))
            self.assertEqual(all_holds(both_web(ONE, web)), all_holds(web))
        for web in drawn_webs():
            self.assertEqual(both_web(web, ONE), web)
            self.assertEqual(both_web(ONE, web), web)

    def test_put_in_a_web_of_one_place(self):
        for web in small_webs() + drawn_webs():
            self.assertEqual(put_in(ONE, 0, web), web)


if __name__ == "__main__":
    unittest.main()
