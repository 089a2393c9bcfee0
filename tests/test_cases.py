"""[4.4] and [4.5]: holdsets.cases, and what it has in common with holdsets.counting."""

import unittest

from holdsets.cases import cases_for, cases_good
from holdsets.counting import all_holds, holds_begun, holds_count
from holdsets.errors import NoPlace, TooGreat
from holdsets.holds import half_good
from holdsets.rings import hold_or_ring, odd_ring
from holdsets.webs import ring_good
from tests.helper import (
    beginnings_of, counted_webs, holds_by_trial, is_beginning, is_odd_ring, rings_of, small_webs, webs_with, whatever,
)

TWO = (2, ((0, 1), (1, 0)))
THREE = (3, ((0, 1), (1, 2), (2, 0)))
PATH = (4, ((0, 1), (1, 2), (2, 3)))
THIRTEEN = (13, tuple((place, place + 1) for place in range(12)))
# A paper that three places in a ring have no hold, written by hand.
THREE_PAPER = (
    "cases",
    ("cases", ("tied", 0, 1), ("cases", ("tied", 2, 0), ("lost", 1))),
    ("cases", ("cases", ("tied", 1, 2), ("lost", 2)), ("lost", 0)),
)
# Places that all lead to a ring of three: whether they are in is told late, so the paper is great.
LATE = (12, tuple(sorted([(place, 9 + place // 3) for place in range(9)] + [(9, 10), (10, 11), (11, 9)])))


def is_paper(web, begun, thing):
    """Tell by the words of the document whether the thing is a paper."""
    places = [repr(place) for place in range(len(begun))]
    if not isinstance(thing, tuple) or len(thing) < 2:
        return False
    if thing[0] == "cases" and len(thing) == 3 and len(begun) < web[0]:
        return is_paper(web, begun + (True,), thing[1]) and is_paper(web, begun + (False,), thing[2])
    if not all(repr(place) in places for place in thing[1:]):
        return False
    if thing[0] == "tied" and len(thing) == 3:
        return thing[1:] in web[1] and begun[thing[1]] and begun[thing[2]]
    if thing[0] == "lost" and len(thing) == 2:
        led = [b for a, b in web[1] if a == thing[1]]
        return not begun[thing[1]] and all(b < len(begun) and not begun[b] for b in led)
    return False


def longest_paper(web, begun):
    """Tell a paper that tries all places ahead of telling a fault; there must be one."""
    if len(begun) < web[0]:
        return ("cases", longest_paper(web, begun + (True,)), longest_paper(web, begun + (False,)))
    return late_fault(web, begun)


def late_fault(web, begun):
    """Tell the last fault of a whole beginning."""
    faults = [("tied", a, b) for a, b in web[1]] + [("lost", place) for place in range(web[0])]
    return [fault for fault in faults if is_paper(web, begun, fault)][-1]


def single_steps(web):
    """Tell all papers of one step that could be thought of, with numbers just beyond."""
    ends = range(-1, web[0] + 1)
    return [("tied", a, b) for a in ends for b in ends] + [("lost", a) for a in ends]


def size_of(paper):
    return 1 + size_of(paper[1]) + size_of(paper[2]) if paper[0] == "cases" else 1


class CasesTestCase(unittest.TestCase):
    def refused(self, kind, ask, *things):
        with self.subTest(ask=ask.__name__, things=things):
            with self.assertRaises(kind) as caught:
                ask(*things)
            self.assertIs(type(caught.exception), kind)

    def good(self, web, begun, *things):
        for thing in things:
            with self.subTest(web=web, begun=begun, thing=thing):
                self.assertIs(cases_good(web, begun, thing), True)

    def bad(self, web, begun, *things):
        for thing in things:
            with self.subTest(web=web, begun=begun, thing=thing):
                self.assertIs(cases_good(web, begun, thing), False)


class CasesGoodTest(CasesTestCase):
    """[4.4]"""

    def test_tied(self):
        self.good(PATH, (True, True), ("tied", 0, 1))
        self.good(PATH, (False, True, True, False), ("tied", 1, 2))
        self.good(TWO, (True, True), ("tied", 0, 1), ("tied", 1, 0))
        self.bad(PATH, (True, True), ("tied", 1, 0), ("tied", 1, 2), ("tied", 0, 0))
        self.bad(PATH, (True,), ("tied", 0, 1))
        self.bad(PATH, (), ("tied", 0, 1))
        self.bad(PATH, (True, False), ("tied", 0, 1))
        self.bad(PATH, (False, True), ("tied", 0, 1))
        self.bad(PATH, (True, False, True), ("tied", 0, 2), ("tied", 2, 0))

    def test_lost(self):
        self.good(PATH, (False, False), ("lost", 0))
        self.good(PATH, (True, False, False, True), ("lost", 1))
        self.good((4, ((0, 1), (0, 3))), (False, False, True, False), ("lost", 0))
        self.bad(PATH, (False, True), ("lost", 0))
        self.bad(PATH, (True, False), ("lost", 0), ("lost", 1))
        self.bad(PATH, (False,), ("lost", 0))
        self.bad(PATH, (), ("lost", 0))
        self.bad((4, ((0, 1), (0, 3))), (False, False, False), ("lost", 0))
        self.bad((4, ((0, 1), (0, 3))), (False, False, False, True), ("lost", 0))

    def test_lost_where_a_place_leads_nowhere(self):
        self.good((1, ()), (False,), ("lost", 0))
        self.good((2, ((0, 1),)), (True, False), ("lost", 1))
        self.bad((1, ()), (True,), ("lost", 0))
        self.bad((2, ()), (False,), ("lost", 1))

    def test_cases(self):
        self.good(THREE, (), THREE_PAPER)
        self.good(THREE, (True,), THREE_PAPER[1])
        self.good(THREE, (False,), THREE_PAPER[2])
        self.bad(THREE, (True,), THREE_PAPER, THREE_PAPER[2])
        self.bad(THREE, (False,), THREE_PAPER, THREE_PAPER[1])
        self.good((1, ()), (False,), ("lost", 0))
        self.good(PATH, (True,), ("cases", ("tied", 0, 1), ("cases", ("cases", ("tied", 2, 3), ("lost", 3)), ("lost", 1))))

    def test_true_is_first_and_false_second(self):
        web = (2, ((1, 0),))
        self.good(web, (False,), ("lost", 0), ("cases", ("lost", 0), ("lost", 0)), ("cases", ("lost", 0), ("lost", 1)))
        self.bad(web, (False,), ("cases", ("lost", 1), ("lost", 0)))
        both = (2, ((0, 1), (1, 0)))
        self.bad(both, (True,), ("cases", ("tied", 0, 1), ("lost", 1)), ("cases", ("lost", 1), ("tied", 0, 1)))

    def test_cases_behind_a_fault_that_is_there_already(self):
        fault = ("tied", 0, 1)
        self.good(PATH, (True, True), ("cases", fault, fault), ("cases", ("cases", fault, fault), fault))

    def test_cases_where_no_place_is_left(self):
        fault = ("tied", 0, 1)
        self.good(PATH, (True,) * 4, fault)
        self.bad(PATH, (True,) * 4, ("cases", fault, fault))
        self.bad((1, ()), (False,), ("cases", ("lost", 0), ("lost", 0)))
        self.bad(PATH, (True,) * 3, ("cases", fault, ("cases", fault, fault)))

    def test_both_cases_are_looked_at(self):
        fault = ("tied", 0, 1)
        for wrong in (None, (), ("lost", 0), ("tied", 2, 3), ("cases", fault), True, "tied"):
            self.bad(PATH, (True, True), ("cases", wrong, fault), ("cases", fault, wrong), ("cases", wrong, wrong))
            self.bad(PATH, (True, True), ("cases", fault, ("cases", fault, wrong)))

    def test_other_words(self):
        for word in ("Tied", "ties", "", "lost", "cases", " tied", 0, None, True, (), [], {}, ("tied",), ["tied"]):
            self.bad(PATH, (True, True), (word, 0, 1))
        for word in ("Lost", "tied", "", "cases", 0, None, True, (), [], {}):
            self.bad(PATH, (False, False), (word, 0))
        fault = ("tied", 0, 1)
        for word in ("Cases", "case", "tied", "lost", "", 0, None, True, (), [], {}):
            self.bad(PATH, (True, True), (word, fault, fault))

    def test_numbers_too_many_or_too_few(self):
        fault = ("tied", 0, 1)
        self.bad(PATH, (True, True), ("tied",), ("tied", 0), ("tied", 0, 1, 2), ("tied", (0, 1)), ("tied", 0, 1, None))
        self.bad(PATH, (False, False), ("lost",), ("lost", 0, 0), ("lost", 0, 1), ("lost", (0,)), ("lost", 0, ()))
        self.bad(PATH, (True, True), ("cases",), ("cases", fault), ("cases", fault, fault, fault), ("cases", (fault, fault)))

    def test_truths_and_other_things_for_numbers(self):
        self.bad(PATH, (True, True), ("tied", False, True), ("tied", 0, True), ("tied", False, 1), ("tied", "0", "1"))
        self.bad(PATH, (True, True), ("tied", [0], [1]), ("tied", None, 1), ("tied", 0, {}), ("tied", (), ()))
        self.bad(PATH, (False, False), ("lost", False), ("lost", "0"), ("lost", [0]), ("lost", None), ("lost", {}))
        self.bad(PATH, (True, False, False), ("lost", True))

    def test_lists_for_tuples(self):
        fault = ("tied", 0, 1)
        self.bad(PATH, (True, True), ["tied", 0, 1], ["cases", fault, fault], ("cases", list(fault), fault), [fault])
        self.bad(PATH, (False, False), ["lost", 0], {"lost": 0}, "lost 0", {0: "lost", 1: 0})

    def test_places_that_are_none(self):
        self.bad(PATH, (True,) * 4, ("tied", 3, 4), ("tied", -1, 0), ("tied", 0, 10 ** 99))
        self.bad(PATH, (False,) * 4, ("lost", 4), ("lost", -1), ("lost", 10 ** 99))

    def test_all_single_steps(self):
        for web in small_webs()[::2] + [PATH]:
            for begun in beginnings_of(web):
                for step in single_steps(web):
                    self.assertIs(cases_good(web, begun, step), is_paper(web, begun, step))

    def test_all_papers_of_two_steps(self):
        for web in (TWO, (2, ()), (2, ((1, 0),)), THREE):
            steps = single_steps(web)
            for begun in beginnings_of(web):
                for first in steps:
                    for second in steps:
                        thing = ("cases", first, second)
                        self.assertIs(cases_good(web, begun, thing), is_paper(web, begun, thing))

    def test_the_longest_papers(self):
        for web in [THREE] + [web for web in small_webs() if not holds_by_trial(web)]:
            self.good(web, (), longest_paper(web, ()))
        ring = (9, tuple(sorted((place, (place + 1) % 9) for place in range(9))))
        self.good(ring, (), longest_paper(ring, ()))

    def test_whatever(self):
        for web, begun in ((PATH, ()), (PATH, (True, True)), ((1, ()), (False,)), ((2, ()), (False,)), (THREE, (True, False))):
            for thing in whatever():
                with self.subTest(web=web, begun=begun, thing=thing):
                    self.assertIs(cases_good(web, begun, thing), is_paper(web, begun, thing))
                    paper = ("cases", thing, thing)
                    self.assertIs(cases_good(web, begun, paper), is_paper(web, begun, paper))

    def test_no_beginning(self):
        for thing in whatever() + [(0,), (1,), [], [True], (True,) * 5, (False,) * 41, (True, 0), (None,), "", {}]:
            for web in (PATH, (1, ())):
                if not is_beginning(web, thing):
                    self.refused(NoPlace, cases_good, web, thing, ("lost", 0))
                    self.refused(NoPlace, cases_good, web, thing, None)
                    self.refused(NoPlace, cases_for, web, thing)

    def test_more_than_twelve_places(self):
        self.good(THIRTEEN, (True, True), ("tied", 0, 1))
        self.bad(THIRTEEN, (True,), ("tied", 0, 1))
        self.bad(THIRTEEN, (), None, ("lost", 0))
        self.refused(NoPlace, cases_good, THIRTEEN, (True,) * 14, ("tied", 0, 1))
        self.refused(NoPlace, cases_good, THIRTEEN, [True], None)
        great = (40, ((0, 1), (38, 39)))
        self.good(great, (True, True), ("tied", 0, 1))
        self.good(great, (False,) * 40, ("lost", 0), ("lost", 38), ("lost", 39))
        self.good(great, (True,) * 40, ("tied", 38, 39))
        self.bad(great, (True,) * 40, ("cases", ("tied", 38, 39), ("tied", 38, 39)))

    def test_a_paper_of_forty_places(self):
        # Places that lead nowhere, and a ring of three behind them.
        web = (40, ((37, 38), (38, 39), (39, 37)))
        paper = ("cases", ("cases", ("tied", 37, 38), ("cases", ("tied", 39, 37), ("lost", 38))),
                 ("cases", ("cases", ("tied", 38, 39), ("lost", 39)), ("lost", 37)))
        wrong = paper[:2] + (("cases", ("cases", ("tied", 38, 39), ("lost", 38)), ("lost", 37)),)
        for place in range(36, -1, -1):
            paper = ("cases", paper, ("lost", place))
            wrong = ("cases", wrong, ("lost", place))
        self.good(web, (), paper)
        self.bad(web, (), wrong)
        self.bad(web, (True,), paper)


class CasesForTest(CasesTestCase):
    """[4.4]"""

    def test_papers_told(self):
        for web, begun in ((THREE, ()), (THREE, (True,)), (PATH, (True,)), (PATH, (True, True)), ((1, ()), (False,)), (LATE, ())):
            paper = cases_for(web, begun)
            self.assertIsInstance(paper, tuple)
            self.assertTrue(is_paper(web, begun, paper))
            self.good(web, begun, paper)

    def test_none_where_some_hold_begins_so(self):
        for web, begun in ((PATH, ()), (PATH, (False,)), (PATH, (False, True, False, True)), (TWO, ()), (TWO, (True,)),
                           (TWO, (False,)), ((1, ()), ()), ((1, ()), (True,)), ((12, ()), (True,) * 12)):
            self.assertIs(cases_for(web, begun), None)

    def test_webs_of_five_to_twelve_places(self):
        for web in counted_webs():
            marks = [tuple(place in hold for place in range(web[0])) for hold in holds_by_trial(web)]
            for begun in ((), (True,), (False,), (True, False), (False, False, True), (False,) * web[0]):
                paper = cases_for(web, begun)
                self.assertEqual(paper is None, any(truths[:len(begun)] == begun for truths in marks))
                self.assertIs(cases_good(web, begun, paper), paper is not None)
                self.assertEqual(is_paper(web, begun, paper), paper is not None)

    def test_a_great_paper_may_be_handed_in_again(self):
        paper = cases_for(LATE, ())
        self.assertGreater(size_of(paper), 500)
        self.good(LATE, (), paper)
        self.good(LATE, (True,), paper[1])
        self.good(LATE, (False,), paper[2])
        self.bad(LATE, (True,), paper)

    def test_too_great_ahead_of_no_place(self):
        for thing in whatever() + [(), (True,), (True,) * 14, [True]]:
            for many in (13, 40):
                with self.subTest(many=many, thing=thing):
                    with self.assertRaises(TooGreat) as caught:
                        cases_for((many, THIRTEEN[1]), thing)
                    self.assertIs(type(caught.exception), TooGreat)
                    self.assertEqual(repr((caught.exception.many, caught.exception.most)), repr((many, 12)))

    def test_twelve_places_are_answered(self):
        self.assertIs(cases_for((12, THIRTEEN[1][:11]), ()), None)
        self.good((12, THIRTEEN[1][:11]), (True,), cases_for((12, THIRTEEN[1][:11]), (True,)))


class SoTest(CasesTestCase):
    """[4.5]"""

    def webs(self):
        return small_webs()[::2] + [PATH] + [web for web in counted_webs() if web[0] < 7]

    def test_holds_that_begin_so_are_those_with_true_and_with_false_together(self):
        for web in self.webs():
            for begun in beginnings_of(web):
                if len(begun) < web[0]:
                    together = holds_begun(web, begun + (True,)) + holds_begun(web, begun + (False,))
                    self.assertEqual(holds_begun(web, begun), together)
            self.assertEqual(holds_begun(web, ()), holds_count(web))

    def test_a_paper_just_where_no_hold_begins_so(self):
        for web in self.webs():
            for begun in beginnings_of(web):
                paper = cases_for(web, begun)
                self.assertEqual(paper is None, holds_begun(web, begun) > 0)
                self.assertIs(cases_good(web, begun, paper), paper is not None)

    def test_whoever_made_the_paper(self):
        for web in small_webs()[::3]:
            for begun in beginnings_of(web):
                if holds_begun(web, begun) == 0:
                    self.good(web, begun, longest_paper(web, begun))
                else:
                    for step in single_steps(web):
                        self.assertIs(cases_good(web, begun, step), False)

    def test_a_web_without_holds_has_an_odd_ring(self):
        for web in small_webs():
            if holds_count(web) == 0:
                self.assertTrue(any(len(ring) in (3, 5) for ring in rings_of(web)))

    def test_the_odd_ring_of_a_web_without_holds_is_told(self):
        none = 0
        for web in small_webs() + webs_with(4, 7) + counted_webs() + [LATE]:
            if cases_for(web, ()) is not None:
                none += 1
                self.assertEqual(holds_count(web), 0)
                self.assertTrue(is_odd_ring(web, odd_ring(web)))
                self.assertIs(ring_good(web, odd_ring(web)), True)
                self.assertEqual(hold_or_ring(web)[0], "ring")
            elif odd_ring(web) is None:
                self.assertIn(hold_or_ring(web)[1], all_holds(web))
        self.assertGreater(none, 20)

    def test_half_holds_need_not_be_parts_of_holds(self):
        web = (5, ((0, 1), (1, 0), (2, 1), (2, 3), (3, 4), (4, 2)))
        self.assertIs(half_good(web, (0,)), True)
        self.assertEqual(all_holds(web), [(1, 4)])


if __name__ == "__main__":
    unittest.main()
