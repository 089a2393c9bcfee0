"""[0.1] to [0.4] and the interface, for all modules but holdsets.errors."""

import copy
import inspect
import unittest

from holdsets import cases, counting, desk, games, heaps, holds, making, marks, numbers, rings, texts, webs
from holdsets.errors import NoArrow, NoHold, NoNumber, NoPlace, NoRow, NoText, NoWeb, Ringed, TooGreat, WebError
from tests.helper import (
    counted_webs, drawn_webs, even_webs, great_webs, nested, pairs_of, ringless_webs, small_webs, subsets, whatever,
)

WEB = (6, ((0, 1), (1, 2), (2, 3), (3, 0), (3, 4)))
PATH = (4, ((0, 1), (1, 2), (2, 3)))
# Two rings of two: four holds.
PAIRS = (4, ((0, 1), (1, 0), (2, 3), (3, 2)))
# Nine places that lead to a ring of three places behind them, which no set of places holds.
LATE = (12, tuple(sorted([(place, 9) for place in range(9)] + [(9, 10), (10, 11), (11, 9)])))
# A ring of four, an odd ring of three, a ring of two that is left by one place to the end of a path of three.
FOUR = (4, ((0, 1), (1, 2), (2, 3), (3, 0)))
THREE = (3, ((0, 1), (1, 2), (2, 0)))
GAME = (5, ((0, 1), (1, 0), (1, 2), (2, 3), (3, 4)))
# Takes beyond those that are told, without a round that is told; webs whose webs of arrows have too many arrows or places.
LONG = (1, 18, 44, 45)
DENSE = (34, tuple((0, b) for b in range(21, 31)) + tuple((a, 0) for a in range(1, 21)) + ((31, 32), (32, 33)))
FULL = (40, tuple(pairs_of(40)[:200]))

INTERFACE = (
    (webs, "web_good", ["thing"]),
    (webs, "web_of", ["many", "things"]),
    (webs, "leads_to", ["web", "place"]),
    (webs, "led_from", ["web", "place"]),
    (webs, "ends_of", ["web"]),
    (webs, "turned_web", ["web"]),
    (webs, "among_web", ["web", "places"]),
    (webs, "ring_good", ["web", "thing"]),
    (webs, "order_good", ["web", "thing"]),
    (webs, "order_of", ["web"]),
    (webs, "groups_of", ["web"]),
    (webs, "comes_of", ["web", "place"]),
    (holds, "hold_good", ["web", "thing"]),
    (holds, "why_not", ["web", "places"]),
    (holds, "why_not_good", ["web", "places", "thing"]),
    (holds, "half_good", ["web", "thing"]),
    (holds, "halves_joined", ["web", "one", "other"]),
    (holds, "left_by", ["web", "half"]),
    (holds, "put_on", ["web", "half", "hold"]),
    (marks, "marks_good", ["web", "thing"]),
    (marks, "marks_of", ["web", "hold"]),
    (marks, "hold_of", ["web", "marks"]),
    (marks, "one_hold", ["web"]),
    (marks, "depths_of", ["web"]),
    (marks, "grown_web", ["web", "places"]),
    (counting, "all_holds", ["web"]),
    (counting, "holds_count", ["web"]),
    (counting, "nth_hold", ["web", "number"]),
    (counting, "rank_of", ["web", "hold"]),
    (counting, "next_hold", ["web", "hold"]),
    (counting, "holds_begun", ["web", "begun"]),
    (counting, "next_marks", ["web", "begun"]),
    (counting, "always_in", ["web"]),
    (counting, "never_in", ["web"]),
    (cases, "cases_good", ["web", "begun", "thing"]),
    (cases, "cases_for", ["web", "begun"]),
    (rings, "odd_ring", ["web"]),
    (rings, "sides_of", ["web"]),
    (rings, "sides_good", ["web", "thing"]),
    (rings, "hold_or_ring", ["web"]),
    (rings, "settled_marks", ["web"]),
    (rings, "rest_of", ["web"]),
    (games, "outcomes", ["web"]),
    (games, "lengths_of", ["web"]),
    (games, "lengths_good", ["web", "thing"]),
    (games, "best_moves", ["web", "place"]),
    (games, "play_good", ["web", "thing"]),
    (games, "play_of", ["web", "place"]),
    (numbers, "numbers_good", ["web", "thing"]),
    (numbers, "numbers_of", ["web"]),
    (numbers, "together_of", ["numbers"]),
    (numbers, "stones_number", ["web", "stones"]),
    (numbers, "good_moves", ["web", "stones"]),
    (numbers, "number_web", ["most"]),
    (heaps, "takes_good", ["thing"]),
    (heaps, "heap_numbers", ["takes", "most"]),
    (heaps, "heap_round", ["takes"]),
    (heaps, "round_good", ["takes", "thing"]),
    (heaps, "heap_far", ["takes", "heap"]),
    (heaps, "heaps_number", ["takes", "heaps"]),
    (heaps, "good_takes", ["takes", "heaps"]),
    (heaps, "heap_web", ["takes", "most"]),
    (heaps, "zero_heaps", ["takes", "most"]),
    (making, "beside_web", ["web", "other"]),
    (making, "both_web", ["web", "other"]),
    (making, "arrows_web", ["web"]),
    (making, "hold_to_arrows", ["web", "hold"]),
    (making, "hold_from_arrows", ["web", "hold"]),
    (making, "put_in", ["web", "place", "other"]),
    (texts, "web_shown", ["web"]),
    (texts, "web_read", ["text"]),
    (desk, "Desk", []),
    (desk.Desk, "say", ["self", "row"]),
)


def said(*rows):
    """Tell what a new desk answers to the last of the rows."""
    asked = desk.Desk()
    for row in rows[:-1]:
        asked.say(row)
    return asked.say(rows[-1])


# Each question with one thing left open, for whatever is handed in there.
ASKED_OF_WHATEVER = (
    ("web_good", webs.web_good),
    ("web_of many", lambda thing: webs.web_of(thing, [])),
    ("web_of things", lambda thing: webs.web_of(2, [(0, 1), thing])),
    ("leads_to", lambda thing: webs.leads_to(WEB, thing)),
    ("led_from", lambda thing: webs.led_from(WEB, thing)),
    ("ring_good", lambda thing: webs.ring_good(WEB, thing)),
    ("order_good", lambda thing: webs.order_good(WEB, thing)),
    ("comes_of", lambda thing: webs.comes_of(WEB, thing)),
    ("hold_good", lambda thing: holds.hold_good(WEB, thing)),
    ("why_not", lambda thing: holds.why_not(WEB, thing)),
    ("why_not_good places", lambda thing: holds.why_not_good(WEB, thing, ("lost", 5))),
    ("why_not_good thing", lambda thing: holds.why_not_good(WEB, (0, 1), thing)),
    ("half_good", lambda thing: holds.half_good(WEB, thing)),
    ("halves_joined one", lambda thing: holds.halves_joined(WEB, thing, (4,))),
    ("halves_joined other", lambda thing: holds.halves_joined(WEB, (4,), thing)),
    ("left_by", lambda thing: holds.left_by(WEB, thing)),
    ("put_on half", lambda thing: holds.put_on(WEB, thing, (0,))),
    ("put_on hold", lambda thing: holds.put_on(WEB, (4,), thing)),
    ("marks_good", lambda thing: marks.marks_good(PAIRS, thing)),
    ("nth_hold", lambda thing: counting.nth_hold(PAIRS, thing)),
    ("rank_of", lambda thing: counting.rank_of(PAIRS, thing)),
    ("next_hold", lambda thing: counting.next_hold(PAIRS, thing)),
    ("holds_begun", lambda thing: counting.holds_begun(PAIRS, thing)),
    ("next_marks", lambda thing: counting.next_marks(PAIRS, thing)),
    ("cases_good begun", lambda thing: cases.cases_good(PAIRS, thing, ("lost", 0))),
    ("cases_good thing", lambda thing: cases.cases_good(PAIRS, (False, False), thing)),
    ("cases_for", lambda thing: cases.cases_for(PAIRS, thing)),
    ("sides_good", lambda thing: rings.sides_good(FOUR, thing)),
    ("sides_good odd", lambda thing: rings.sides_good(THREE, thing)),
    ("lengths_good", lambda thing: games.lengths_good(PATH, thing)),
    ("lengths_good ringed", lambda thing: games.lengths_good(GAME, thing)),
    ("best_moves", lambda thing: games.best_moves(GAME, thing)),
    ("play_good", lambda thing: games.play_good(PATH, thing)),
    ("play_of", lambda thing: games.play_of(GAME, thing)),
    ("numbers_good", lambda thing: numbers.numbers_good(PATH, thing)),
    ("numbers_good ringed", lambda thing: numbers.numbers_good(PAIRS, thing)),
    ("stones_number", lambda thing: numbers.stones_number(PATH, thing)),
    ("stones_number ringed", lambda thing: numbers.stones_number(PAIRS, thing)),
    ("good_moves", lambda thing: numbers.good_moves(PATH, thing)),
    ("good_moves ringed", lambda thing: numbers.good_moves(PAIRS, thing)),
    ("takes_good", heaps.takes_good),
    ("heap_numbers", lambda thing: heaps.heap_numbers((1, 2), thing)),
    ("round_good", lambda thing: heaps.round_good((1,), thing)),
    ("heap_far", lambda thing: heaps.heap_far((2, 3), thing)),
    ("heap_far without a round", lambda thing: heaps.heap_far(LONG, thing)),
    ("heaps_number", lambda thing: heaps.heaps_number((1, 2), thing)),
    ("good_takes", lambda thing: heaps.good_takes((1, 2), thing)),
    ("heap_web", lambda thing: heaps.heap_web((1, 2, 3, 4, 5, 6), thing)),
    ("zero_heaps", lambda thing: heaps.zero_heaps((1, 2), thing)),
    ("hold_to_arrows", lambda thing: making.hold_to_arrows(PAIRS, thing)),
    ("hold_to_arrows none", lambda thing: making.hold_to_arrows((2, ()), thing)),
    ("hold_to_arrows great", lambda thing: making.hold_to_arrows(DENSE, thing)),
    ("hold_from_arrows", lambda thing: making.hold_from_arrows(PAIRS, thing)),
    ("hold_from_arrows none", lambda thing: making.hold_from_arrows((2, ()), thing)),
    ("hold_from_arrows great", lambda thing: making.hold_from_arrows(DENSE, thing)),
    ("put_in", lambda thing: making.put_in(PATH, thing, PAIRS)),
    ("put_in great", lambda thing: making.put_in(PATH, thing, FULL)),
    ("web_read", texts.web_read),
    ("say", said),
    ("say behind deeds", lambda thing: said("web 3", "arrow 0 1", thing)),
)

QUESTIONS = (
    (webs.web_good, (WEB,)),
    (webs.web_of, (3, [(2, 1), (0, 1)])),
    (webs.leads_to, (WEB, 3)),
    (webs.led_from, (WEB, 0)),
    (webs.ends_of, (WEB,)),
    (webs.turned_web, (WEB,)),
    (webs.among_web, (WEB, (0, 3, 4))),
    (webs.ring_good, (WEB, (0, 1, 2, 3))),
    (webs.order_good, ((2, ()), (1, 0))),
    (webs.order_of, (WEB,)),
    (webs.order_of, ((3, ((0, 1),)),)),
    (webs.groups_of, (WEB,)),
    (webs.comes_of, (WEB, 3)),
    (holds.hold_good, (WEB, (0, 2, 4, 5))),
    (holds.why_not, (WEB, (0, 1))),
    (holds.why_not, (WEB, (0, 2))),
    (holds.why_not_good, (WEB, (0, 2), ("lost", 5))),
    (holds.half_good, (WEB, (0, 2))),
    (holds.halves_joined, (WEB, (0, 2), (4,))),
    (holds.left_by, (WEB, (4,))),
    (holds.put_on, (WEB, (4,), (0, 2, 3))),
    (marks.marks_good, (PATH, (False, True, False, True))),
    (marks.marks_of, (PATH, (1, 3))),
    (marks.hold_of, (PATH, (False, True, False, True))),
    (marks.one_hold, (PATH,)),
    (marks.one_hold, (PAIRS,)),
    (marks.depths_of, (PATH,)),
    (marks.depths_of, (WEB,)),
    (marks.grown_web, (PATH, (1, 2))),
    (marks.grown_web, ((40, ()), ())),
    (counting.all_holds, (PAIRS,)),
    (counting.all_holds, ((13, ()),)),
    (counting.holds_count, (PAIRS,)),
    (counting.nth_hold, (PAIRS, 3)),
    (counting.nth_hold, (PAIRS, 4)),
    (counting.rank_of, (PAIRS, (1, 2))),
    (counting.next_hold, (PAIRS, (1, 2))),
    (counting.next_hold, (PAIRS, (1, 3))),
    (counting.holds_begun, (PAIRS, (True,))),
    (counting.next_marks, (PAIRS, (True, False))),
    (counting.next_marks, (PAIRS, (True, True))),
    (counting.always_in, (WEB,)),
    (counting.never_in, (WEB,)),
    (cases.cases_good, (PATH, (True, True), ("tied", 0, 1))),
    (cases.cases_for, (PATH, (True,))),
    (cases.cases_for, (PATH, (False,))),
    (cases.cases_for, (LATE, ())),
    (rings.odd_ring, (THREE,)),
    (rings.odd_ring, (FOUR,)),
    (rings.sides_of, (FOUR,)),
    (rings.sides_of, (THREE,)),
    (rings.sides_good, (FOUR, (0, 1, 0, 1))),
    (rings.hold_or_ring, (FOUR,)),
    (rings.hold_or_ring, (LATE,)),
    (rings.settled_marks, (GAME,)),
    (rings.rest_of, (GAME,)),
    (rings.rest_of, (PAIRS,)),
    (games.outcomes, (GAME,)),
    (games.outcomes, (PAIRS,)),
    (games.lengths_of, (GAME,)),
    (games.lengths_good, (PATH, (3, 2, 1, 0))),
    (games.best_moves, (GAME, 1)),
    (games.best_moves, (GAME, 5)),
    (games.play_good, (PATH, (1, 2, 3))),
    (games.play_of, (PATH, 0)),
    (games.play_of, (PAIRS, 0)),
    (numbers.numbers_good, (PATH, (1, 0, 1, 0))),
    (numbers.numbers_of, (PATH,)),
    (numbers.numbers_of, (THREE,)),
    (numbers.together_of, ([3, 5, 10 ** 59],)),
    (numbers.stones_number, (PATH, (0, 1, 2, 2))),
    (numbers.stones_number, (PATH, [0])),
    (numbers.good_moves, (PATH, (0, 2, 2, 1))),
    (numbers.good_moves, (THREE, ())),
    (numbers.number_web, (4,)),
    (numbers.number_web, (20,)),
    (heaps.takes_good, ((1, 2, 9),)),
    (heaps.heap_numbers, ((2, 3), 12)),
    (heaps.heap_numbers, ((2, 3), 5001)),
    (heaps.heap_round, ((2, 3, 6, 8, 9),)),
    (heaps.heap_round, (LONG,)),
    (heaps.round_good, ((2, 3), (4, 10))),
    (heaps.heap_far, ((1, 3, 4), 10 ** 40)),
    (heaps.heap_far, (LONG, 5001)),
    (heaps.heaps_number, ((1, 2, 3), [7, 2])),
    (heaps.heaps_number, ((1, 2, 3), [])),
    (heaps.good_takes, ((1, 2, 3), [7, 2])),
    (heaps.good_takes, ((1, 2, 3), [True])),
    (heaps.heap_web, ((1, 3), 4)),
    (heaps.heap_web, ((4, 5, 6, 7, 8, 9), 39)),
    (heaps.heap_web, ((1, 3), 40)),
    (heaps.zero_heaps, ((1, 3), 9)),
    (making.beside_web, (PATH, PAIRS)),
    (making.beside_web, (PATH, (37, ()))),
    (making.both_web, (PATH, PAIRS)),
    (making.both_web, (PATH, (11, ()))),
    (making.arrows_web, (GAME,)),
    (making.arrows_web, ((2, ()),)),
    (making.arrows_web, (DENSE,)),
    (making.hold_to_arrows, (PATH, (1, 3))),
    (making.hold_to_arrows, (PATH, (1,))),
    (making.hold_from_arrows, (PATH, (0, 2))),
    (making.hold_from_arrows, (THREE, (0,))),
    (making.put_in, (PATH, 1, THREE)),
    (making.put_in, (PATH, 4, THREE)),
    (texts.web_shown, (GAME,)),
    (texts.web_read, ("web 3\narrow 0 1\narrow 2 0",)),
    (texts.web_read, ("web 3\narrow 0 1\narrow 0 1",)),
    (said, ("shown",)),
    (said, ("back",)),
    (said, ("web 3", "arrow 0 1", "grow 0", "turn", "shown")),
    (said, ("web 3", "arrow 0 1", "arrow 0 1")),
    (said, ("web 3", "arrow 0 1", "back", "arrows")),
)

# Questions that are answered with lists.
LISTS_TOLD = (
    (webs.leads_to, (WEB, 3)),
    (webs.led_from, (WEB, 0)),
    (webs.ends_of, (WEB,)),
    (webs.groups_of, (WEB,)),
    (marks.depths_of, (PATH,)),
    (counting.all_holds, (PAIRS,)),
    (counting.next_marks, (PAIRS, ())),
    (rings.settled_marks, (GAME,)),
    (rings.settled_marks, (PAIRS,)),
    (games.outcomes, (PATH,)),
    (games.outcomes, (PAIRS,)),
    (games.best_moves, (PATH, 0)),
    (games.best_moves, (PAIRS, 0)),
    (numbers.good_moves, (PATH, (0, 2, 2))),
    (heaps.heap_numbers, ((1, 2), 9)),
    (heaps.good_takes, ((1, 3), [5, 4, 2])),
    (heaps.zero_heaps, ((1, 2), 9)),
)


def answer_of(ask, *things):
    """Tell the answer, or the refusal, as a text in which 1 and True are unlike."""
    try:
        return repr(ask(*things))
    except WebError as refusal:
        return type(refusal).__name__ + repr(vars(refusal))


class InterfaceTest(unittest.TestCase):
    def test_names_and_arguments(self):
        for module, name, arguments in INTERFACE:
            with self.subTest(name=name):
                self.assertEqual(list(inspect.signature(getattr(module, name)).parameters), arguments)

    def test_what_lies_somewhat_beyond_is_not_refused(self):
        far = (45, tuple(pairs_of(45)[:230]))
        self.assertEqual(webs.leads_to(far, 0), list(range(1, 45)))
        self.assertEqual(webs.led_from(far, 44), [0, 1, 2, 3, 4])
        self.assertEqual(webs.ends_of(far)[-1], 44)
        self.assertEqual(webs.turned_web(webs.turned_web(far)), far)
        self.assertEqual(webs.among_web(far, tuple(range(45))), far)
        self.assertEqual(webs.order_of((45, ())), ("order", tuple(range(45))))
        self.assertEqual(len(webs.groups_of(far)), 40)
        self.assertEqual(len(webs.comes_of(far, 0)), 45)
        self.assertIs(holds.hold_good((45, ()), tuple(range(45))), True)
        self.assertEqual(holds.why_not(far, (44,)), ("lost", 5))
        self.assertIs(marks.marks_good((45, ()), (True,) * 45), True)
        self.assertEqual(marks.hold_of((45, ()), marks.marks_of((45, ()), tuple(range(45)))), tuple(range(45)))
        self.assertEqual(marks.one_hold((45, ())), tuple(range(45)))
        self.assertEqual(marks.depths_of((45, ((0, 44),))), [1] + [0] * 44)
        self.assertIs(cases.cases_good(far, (True,) * 45, ("tied", 5, 0)), True)

    def test_rings_games_and_numbers_somewhat_beyond(self):
        path = (45, tuple((place, place + 1) for place in range(44)))
        ring = (45, path[1] + ((44, 0),))
        full = (21, tuple((a, b) for a in range(21) for b in range(a)))
        self.assertEqual(rings.odd_ring(ring), tuple(range(45)))
        self.assertEqual(rings.sides_of(path), (0,) * 45)
        self.assertIs(rings.sides_good(path, (0,) * 45), True)
        self.assertEqual(rings.hold_or_ring(path), ("hold", tuple(range(0, 45, 2))))
        self.assertEqual(rings.settled_marks(ring), [None] * 45)
        self.assertEqual(rings.rest_of(ring), tuple(range(45)))
        self.assertEqual(games.outcomes(path), ["lost"] + ["won", "lost"] * 22)
        self.assertEqual(games.lengths_of(path), tuple(range(44, -1, -1)))
        self.assertEqual(games.play_of(path, 0), tuple(range(45)))
        self.assertEqual(games.best_moves(ring, 44), [0])
        self.assertEqual(numbers.numbers_of(full), tuple(range(21)))
        self.assertIs(numbers.numbers_good(full, tuple(range(21))), True)
        self.assertEqual(numbers.good_moves(full, (20, 7)), [(0, 7)])
        self.assertEqual(numbers.together_of([10 ** 70, 10 ** 70, 1]), 1)

    def test_heaps_and_webs_made_of_webs_somewhat_beyond(self):
        ten = tuple(range(1, 11))
        self.assertEqual(heaps.heap_numbers(ten, 12), list(range(11)) + [0, 1])
        self.assertEqual(heaps.heap_round(ten), (0, 11))
        self.assertIs(heaps.round_good((12,), (0, 24)), True)
        self.assertEqual(heaps.heap_far((12,), 10 ** 40), 10 ** 40 // 12 % 2)
        self.assertEqual(heaps.heaps_number((12,), [12, 5]), 1)
        self.assertEqual(heaps.good_takes((12,), [12, 5]), [(0, 12)])
        self.assertEqual(heaps.heap_web((12,), 13), (14, ((12, 0), (13, 1))))
        self.assertEqual(heaps.zero_heaps(ten, 22), [0, 11, 22])
        self.assertEqual(making.arrows_web((45, ((0, 44), (44, 1)))), (2, ((0, 1),)))
        self.assertEqual(making.hold_from_arrows((45, ((0, 44),)), (0,)), tuple(range(1, 45)))
        self.assertEqual(making.hold_to_arrows((45, ((0, 44),)), tuple(range(1, 45))), (0,))
        self.assertEqual(texts.web_shown((45, ((0, 44),))), "web 45\narrow 0 44")


class ShownTest(unittest.TestCase):
    """[0.1]"""

    def test_each_answer_is_what_the_looker_asks_for(self):
        for web in small_webs() + great_webs():
            word, way = webs.order_of(web)
            self.assertIs((webs.order_good if word == "order" else webs.ring_good)(web, way), True)
            for places in subsets(range(min(web[0], 3))):
                told = holds.why_not(web, places)
                self.assertIs(holds.why_not_good(web, places, told), told is not None)
                self.assertIs(holds.hold_good(web, places), told is None)

    def test_each_hold_and_each_paper_is_what_the_looker_asks_for(self):
        for web in small_webs() + counted_webs():
            for hold in counting.all_holds(web):
                self.assertIs(holds.hold_good(web, hold), True)
                self.assertIs(marks.marks_good(web, marks.marks_of(web, hold)), True)
            for begun in ((), (True,), (False,)):
                paper = cases.cases_for(web, begun)
                self.assertIs(cases.cases_good(web, begun, paper), counting.holds_begun(web, begun) == 0)

    def test_a_hold_or_an_odd_ring_and_sides_are_what_the_looker_asks_for(self):
        for web in small_webs() + drawn_webs() + even_webs():
            word, thing = rings.hold_or_ring(web)
            self.assertIs((holds.hold_good if word == "hold" else webs.ring_good)(web, thing), True)
            self.assertIs(rings.sides_good(web, rings.sides_of(web)), word == "hold")

    def test_lengths_plays_and_numbers_are_what_the_looker_asks_for(self):
        for web in small_webs() + drawn_webs()[::3] + ringless_webs()[::2]:
            lengths = games.lengths_of(web)
            self.assertIs(games.lengths_good(web, lengths), True)
            for place in range(web[0]):
                self.assertIs(games.play_good(web, games.play_of(web, place)), lengths[place] is not None)
            if webs.order_of(web)[0] == "order":
                self.assertIs(numbers.numbers_good(web, numbers.numbers_of(web)), True)

    def test_rounds_and_webs_told_are_what_the_looker_asks_for(self):
        for takes in ((1,), (2, 3), (2, 4, 7), (2, 3, 6, 8, 9), (1, 2, 3, 4, 5, 6, 7, 8, 9)):
            self.assertIs(heaps.takes_good(takes), True)
            self.assertIs(heaps.round_good(takes, heaps.heap_round(takes)), True)
            web = heaps.heap_web(takes, 20)
            self.assertIs(numbers.numbers_good(web, tuple(heaps.heap_numbers(takes, 20))), True)
            self.assertIs(holds.hold_good(web, tuple(heaps.zero_heaps(takes, 20))), True)
        for web in small_webs():
            for other in (PATH, THREE, (1, ()), web):
                for told in (making.beside_web(web, other), making.both_web(web, other), making.put_in(web, web[0] - 1, other)):
                    self.assertIs(webs.web_good(told), True)
                    self.assertEqual(texts.web_read(texts.web_shown(told)), told)

    def test_where_there_is_no_hold_a_paper_shows_it_and_an_odd_ring_stands_in_the_web(self):
        for web in small_webs() + counted_webs():
            if counting.holds_count(web) == 0:
                self.assertIs(cases.cases_good(web, (), cases.cases_for(web, ())), True)
                self.assertIs(webs.ring_good(web, rings.odd_ring(web)), True)
                self.assertEqual(len(rings.odd_ring(web)) % 2, 1)

    def test_where_no_ring_is_there_is_just_one_hold(self):
        for web in ringless_webs():
            self.assertIs(holds.hold_good(web, marks.one_hold(web)), True)
            if web[0] <= 12:
                self.assertEqual(counting.all_holds(web), [marks.one_hold(web)])


class UnchangedTest(unittest.TestCase):
    """[0.2]"""

    def test_what_is_handed_in_is_not_changed(self):
        for name, ask in ASKED_OF_WHATEVER:
            for thing in whatever():
                with self.subTest(name=name, thing=thing):
                    ahead = repr(thing)
                    answer_of(ask, thing)
                    self.assertEqual(repr(thing), ahead)

    def test_a_list_handed_in_is_not_changed(self):
        for things in ([(1, 0), (0, 1)], [(1, 0), (1, 0)], [(1, 0), [0, 1]], [[0, {1: [2]}]], []):
            ahead = copy.deepcopy(things)
            answer_of(webs.web_of, 2, things)
            self.assertEqual(repr(things), repr(ahead))

    def test_changing_what_was_handed_in_changes_no_web(self):
        things = [(1, 0), (0, 1)]
        web = webs.web_of(2, things)
        things.append((5, 5))
        things[0] = None
        self.assertEqual(web, (2, ((0, 1), (1, 0))))
        self.assertEqual(webs.web_of(2, [(1, 0), (0, 1)]), web)

    def test_numbers_handed_in_are_not_changed_nor_kept(self):
        for things in ([], [5], [3, 5, 3], [10 ** 59, 0, 1]):
            ahead = list(things)
            told = numbers.together_of(things)
            self.assertEqual(repr(things), repr(ahead))
            things.append(2 ** 100)
            self.assertEqual(numbers.together_of(ahead), told)
            self.assertNotEqual(numbers.together_of(things), told)

    def test_heaps_handed_in_are_not_changed_nor_kept(self):
        for ask in (heaps.heaps_number, heaps.good_takes):
            for things in ([5], [3, 5, 3], [5000, 0, 1], [9, 9, 9, 2, 1, 0, 0, 7], [5001], [], [True, [1]], [0] * 9):
                ahead = copy.deepcopy(things)
                told = answer_of(ask, (1, 3, 4), things)
                self.assertEqual(repr(things), repr(ahead))
                things.clear()
                things.append(4)
                self.assertEqual(answer_of(ask, (1, 3, 4), ahead), told)
                self.assertEqual(answer_of(ask, (1, 3, 4), things), answer_of(ask, (1, 3, 4), [4]))

    def test_lists_that_are_told_are_the_asker_s_own(self):
        for ask, things in LISTS_TOLD:
            with self.subTest(ask=ask.__name__):
                told = ask(*things)
                ahead = list(told)
                self.assertIsInstance(told, list)
                self.assertIsNot(ask(*things), told)
                told.append(99)
                told[0] = None
                self.assertEqual(ask(*things), ahead)
                told.clear()
                self.assertEqual(ask(*things), ahead)

    def test_the_same_question_has_the_same_answer(self):
        first = [answer_of(ask, *things) for ask, things in QUESTIONS]
        for turn in (QUESTIONS, QUESTIONS[::-1]):
            for ask, things in turn:
                answer_of(ask, *things)
            for name, ask in ASKED_OF_WHATEVER:
                answer_of(ask, [name])
                answer_of(ask, (0, 1))
            self.assertEqual([answer_of(ask, *things) for ask, things in QUESTIONS], first)

    def test_what_was_told_may_be_handed_in_again(self):
        for web in great_webs():
            told = webs.web_of(web[0], list(webs.turned_web(web)[1]))
            left = holds.left_by(told, ())
            self.assertEqual(webs.among_web(told, left), told)
            for group in webs.groups_of(told):
                self.assertIs(webs.web_good(webs.among_web(told, group)), True)
                self.assertIn(holds.hold_good(told, group), (True, False))

    def test_sides_lengths_and_plays_told_may_be_handed_in_again(self):
        for web in great_webs() + even_webs()[::5]:
            lengths = games.lengths_of(web)
            sides = rings.sides_of(web)
            for _ in range(2):
                self.assertIs(games.lengths_good(web, lengths), True)
                self.assertIs(rings.sides_good(web, sides), sides is not None)
            rest = rings.rest_of(web)
            self.assertEqual(holds.why_not(web, rest) is None, rest != () and holds.hold_good(web, rest))
            if rest != ():
                self.assertEqual(rings.rest_of(webs.among_web(web, rest)), tuple(range(len(rest))))

    def test_number_webs_and_good_moves_told_may_be_handed_in_again(self):
        web = numbers.number_web(19)
        self.assertIs(numbers.numbers_good(web, numbers.numbers_of(web)), True)
        stones = (19, 12, 12, 7)
        for stone, place in numbers.good_moves(web, stones):
            moved = stones[:stone] + (place,) + stones[stone + 1:]
            self.assertEqual(numbers.stones_number(web, moved), 0)
        self.assertEqual(numbers.together_of([numbers.together_of([10 ** 59, 1]), 1]), 10 ** 59)

    def test_heaps_webs_and_texts_told_may_be_handed_in_again(self):
        many = heaps.heap_numbers((1, 3, 4), 5000)
        self.assertEqual(numbers.together_of(many), numbers.together_of(sorted(many)))
        for things in (many, heaps.zero_heaps((1, 3, 4), 5000)):
            with self.assertRaises(NoNumber):
                heaps.heaps_number((1, 3, 4), things)
        self.assertIs(heaps.round_good((2, 4, 7), heaps.heap_round((2, 4, 7))), True)
        for web in great_webs():
            self.assertEqual(texts.web_read(texts.web_shown(web)), web)
            answer = answer_of(making.arrows_web, web)
            self.assertEqual(answer_of(making.arrows_web, texts.web_read(texts.web_shown(web))), answer)
        web = making.put_in(making.both_web(PATH, PAIRS), 3, making.beside_web(THREE, (5, ())))
        self.assertIs(webs.web_good(making.beside_web(web, (40 - web[0], ()))), True)

    def test_desks_have_nothing_in_common(self):
        one, other = desk.Desk(), desk.Desk()
        one.say("web 7")
        one.say("arrow 0 6")
        self.assertEqual((other.say("shown"), desk.Desk().say("shown")), ("web 1", "web 1"))
        other.say("web 2")
        self.assertEqual(one.say("shown"), "web 7 ; arrow 0 6")

    def test_holds_and_papers_told_may_be_handed_in_again(self):
        paper = cases.cases_for(LATE, ())
        self.assertGreater(len(repr(paper)), 20000)
        for _ in range(2):
            self.assertIs(cases.cases_good(LATE, (), paper), True)
            self.assertEqual(cases.cases_for(LATE, ()), paper)
        for web in counted_webs():
            for number, hold in enumerate(counting.all_holds(web)):
                self.assertEqual(counting.rank_of(web, hold), number)
                self.assertEqual(counting.holds_begun(web, marks.marks_of(web, hold)), 1)
        web = (1, ())
        while web[0] < 40:
            web = marks.grown_web(web, marks.one_hold(web)[:5])
        self.assertIs(holds.hold_good(web, marks.one_hold(web)), True)


class WhateverTest(unittest.TestCase):
    """[0.3]"""

    def test_truths_are_no_whole_numbers(self):
        two = (2, ((0, 1), (1, 0)))
        for thing in (True, False):
            for ask in (webs.leads_to, webs.led_from, webs.comes_of):
                with self.assertRaises(NoPlace):
                    ask(two, thing)
            with self.assertRaises(NoWeb):
                webs.web_of(thing, [])
            with self.assertRaises(NoPlace):
                holds.why_not(two, (thing,))
            with self.assertRaises(NoHold):
                holds.left_by(two, (thing,))
            self.assertIs(holds.hold_good(two, (thing,)), False)
            self.assertIs(holds.half_good(two, (thing,)), False)
            for ask in (counting.rank_of, counting.next_hold):
                with self.assertRaises(NoHold):
                    ask(two, (thing,))
            with self.assertRaises(NoNumber):
                counting.nth_hold(two, thing)
            for ask in (games.best_moves, games.play_of):
                with self.assertRaises(NoPlace):
                    ask(two, thing)
            for ask in (numbers.stones_number, numbers.good_moves):
                with self.assertRaises(NoPlace):
                    ask(PATH, (thing,))
            for ask in (heaps.heap_numbers, heaps.heap_far, heaps.heap_web, heaps.zero_heaps):
                with self.assertRaises(NoNumber):
                    ask((1, 2), thing)
            for ask in (heaps.heaps_number, heaps.good_takes):
                with self.assertRaises(NoNumber):
                    ask((1, 2), [thing])
            for ask in (making.hold_to_arrows, making.hold_from_arrows):
                with self.assertRaises(NoHold):
                    ask(two, (thing,))
            with self.assertRaises(NoPlace):
                making.put_in(two, thing, two)
            with self.assertRaises(NoText):
                texts.web_read(thing)
            with self.assertRaises(NoRow):
                desk.Desk().say(thing)
        self.assertIs(heaps.takes_good((True,)), False)
        self.assertIs(heaps.round_good((1,), (False, 2)), False)
        self.assertIs(rings.sides_good(two, (False, True)), False)
        self.assertIs(games.lengths_good((2, ((1, 0),)), (False, True)), False)
        self.assertIs(games.play_good((2, ((1, 0),)), (True, False)), False)
        self.assertIs(numbers.numbers_good((2, ((1, 0),)), (False, True)), False)
        self.assertIs(cases.cases_good(two, (True, True), ("tied", False, True)), False)
        self.assertIs(webs.ring_good(two, (False, True)), False)
        self.assertIs(webs.order_good((2, ()), (False, True)), False)

    def test_whatever_is_answered_or_refused_as_told(self):
        deep = [nested(wrap, 50) for wrap in (lambda x: [0, x], lambda x: (0, x), lambda x: {"a": x}, lambda x: ([x], 1))]
        signs = "".join(chr(sign) for sign in range(ord(" "), ord("~") + 1) if sign != ord("%"))
        for name, ask in ASKED_OF_WHATEVER:
            for thing in whatever() + deep + [10 ** 100 - 1, 1 - 10 ** 100, signs]:
                with self.subTest(name=name):
                    self.assertIsInstance(answer_of(ask, thing), str)

    def test_lookers_tell_truths_alone(self):
        for name, ask in ASKED_OF_WHATEVER:
            if name.split()[0].endswith("_good") and name.split()[-1] not in ("places", "begun"):
                for thing in whatever():
                    with self.subTest(name=name, thing=thing):
                        self.assertIn(repr(ask(thing)), ("True", "False"))


class FirstRefusalTest(unittest.TestCase):
    """[0.4]"""

    def test_that_one_goes_which_is_told_first(self):
        with self.assertRaises(NoWeb) as caught:
            webs.web_of(0, [None] * 300)
        self.assertEqual(caught.exception.number, -1)
        with self.assertRaises(NoWeb) as caught:
            webs.web_of(3, [(0, 1), (1, 1), (0, 1)] + pairs_of(40)[:300])
        self.assertEqual(caught.exception.number, 1)

    def test_too_great_goes_ahead_of_what_else_is_handed_in(self):
        great = (13, ((0, 1), (1, 0)))
        for ask in (counting.nth_hold, counting.rank_of, counting.next_hold, counting.holds_begun, counting.next_marks,
                    cases.cases_for):
            for thing in (None, -1, True, (0, 0), [True], (True,) * 14):
                with self.assertRaises(TooGreat) as caught:
                    ask(great, thing)
                self.assertEqual(vars(caught.exception), {"many": 13, "most": 12})
        with self.assertRaises(TooGreat) as caught:
            marks.grown_web((40, tuple(pairs_of(40)[:200])), (0, 1))
        self.assertEqual(vars(caught.exception), {"many": 41, "most": 40})

    def test_ringed_goes_ahead_of_no_place(self):
        for ask in (numbers.stones_number, numbers.good_moves):
            for web in (THREE, PAIRS, GAME):
                for thing in (None, -1, True, [0], (9,), (True,), (0,) * 9):
                    with self.assertRaises(Ringed) as caught:
                        ask(web, thing)
                    self.assertIs(webs.ring_good(web, caught.exception.ring), True)
            for thing in (None, -1, True, [0], (9,), (True,), (0,) * 9):
                with self.assertRaises(NoPlace):
                    ask(PATH, thing)

    def test_no_number_goes_ahead_of_too_great(self):
        for heap in (-1, 10 ** 40 + 1, True, None, "5001"):
            with self.assertRaises(NoNumber):
                heaps.heap_far(LONG, heap)
        with self.assertRaises(TooGreat) as caught:
            heaps.heap_far(LONG, 10 ** 40)
        self.assertEqual(vars(caught.exception), {"many": 10 ** 40, "most": 5000})
        for most in (-1, 40, True, None, "39"):
            with self.assertRaises(NoNumber):
                heaps.heap_web((1, 2, 3, 4, 5, 6, 7), most)

    def test_no_arrow_then_too_great_then_no_hold(self):
        for ask in (making.hold_to_arrows, making.hold_from_arrows):
            for thing in (None, -1, (), [0], (0,), (99,), (True,)):
                with self.assertRaises(NoArrow):
                    ask((40, ()), thing)
                with self.assertRaises(TooGreat) as caught:
                    ask(FULL, thing)
                self.assertEqual(vars(caught.exception), {"many": 200, "most": 40})
                with self.assertRaises(TooGreat) as caught:
                    ask(DENSE, thing)
                self.assertEqual(vars(caught.exception), {"many": 201, "most": 200})
                with self.assertRaises(NoHold):
                    ask(GAME, thing)

    def test_no_place_goes_ahead_of_too_great(self):
        for thing in (None, -1, True, 40, (0,), "0"):
            with self.assertRaises(NoPlace):
                making.put_in(FULL, thing, FULL)
        with self.assertRaises(TooGreat) as caught:
            making.put_in(FULL, 0, FULL)
        self.assertEqual(vars(caught.exception), {"many": 79, "most": 40})

    def test_what_a_desk_refuses_changes_nothing(self):
        asked = desk.Desk()
        for row in ("web 3", "arrow 0 1", "arrow 1 2"):
            asked.say(row)
        for row, refusal in (
            (None, "NoRow{}"), ("arrow 9", "NoRow{}"), ("arrow 9 9", "NoPlace{}"), ("arrow 0 0", "NoWeb{'number': 2}"),
            ("arrow 0 1", "NoWeb{'number': 2}"), ("cut 1 0", "NoWeb{'number': 2}"), ("web 41", "NoWeb{'number': -1}"),
            ("grow 1 0", "NoPlace{}"), ("among 0 3", "NoPlace{}"), ("look 3", "NoPlace{}"),
        ):
            self.assertEqual(answer_of(asked.say, row), refusal)
            self.assertEqual(asked.say("shown"), "web 3 ; arrow 0 1 ; arrow 1 2")
        self.assertEqual([asked.say("back"), asked.say("shown")], ["ok", "web 3 ; arrow 0 1"])

    def test_refusals_can_be_taken_as_value_errors(self):
        for kind, ask, things in (
            (NoWeb, webs.web_of, (0, [])), (NoPlace, webs.leads_to, (WEB, 6)), (NoHold, holds.left_by, (WEB, (0,))),
            (NoPlace, holds.why_not, (WEB, [0])), (Ringed, marks.one_hold, (WEB,)), (Ringed, marks.depths_of, (WEB,)),
            (TooGreat, marks.grown_web, ((40, ()), ())), (TooGreat, counting.all_holds, ((13, ()),)),
            (NoNumber, counting.nth_hold, (WEB, -1)), (NoHold, counting.rank_of, (WEB, ())),
            (NoPlace, counting.holds_begun, (WEB, [])), (NoPlace, cases.cases_good, (WEB, [], ())),
            (NoPlace, games.best_moves, (WEB, 6)), (NoPlace, games.play_of, (WEB, None)), (Ringed, numbers.numbers_of, (WEB,)),
            (Ringed, numbers.stones_number, (WEB, None)), (Ringed, numbers.good_moves, (WEB, ())),
            (NoPlace, numbers.stones_number, (PATH, [])), (NoPlace, numbers.good_moves, (PATH, (4,))),
            (TooGreat, numbers.number_web, (20,)), (NoNumber, heaps.heap_numbers, ((1,), -1)),
            (NoNumber, heaps.heap_far, ((1,), None)), (TooGreat, heaps.heap_far, (LONG, 5001)),
            (NoNumber, heaps.heaps_number, ((1,), [])), (NoNumber, heaps.good_takes, ((1,), (1,))),
            (NoNumber, heaps.heap_web, ((1,), 40)), (TooGreat, heaps.heap_web, ((4, 5, 6, 7, 8, 9), 39)),
            (NoNumber, heaps.zero_heaps, ((1,), 5001)), (TooGreat, making.beside_web, (FULL, PATH)),
            (TooGreat, making.both_web, (FULL, PATH)), (NoArrow, making.arrows_web, ((2, ()),)),
            (TooGreat, making.arrows_web, (DENSE,)), (NoHold, making.hold_to_arrows, (PATH, ())),
            (NoHold, making.hold_from_arrows, (PATH, None)), (NoPlace, making.put_in, (PATH, 4, PATH)),
            (TooGreat, making.put_in, (PATH, 0, FULL)), (NoText, texts.web_read, ("",)), (NoRow, said, ("",)),
            (NoWeb, said, ("web 0",)), (NoPlace, said, ("game 1",)), (TooGreat, said, ("web 13", "holds")),
            (Ringed, said, ("web 2", "arrow 0 1", "arrow 1 0", "numbers")),
        ):
            with self.subTest(ask=ask.__name__):
                with self.assertRaises(ValueError) as caught:
                    ask(*things)
                self.assertIs(type(caught.exception), kind)


if __name__ == "__main__":
    unittest.main()
