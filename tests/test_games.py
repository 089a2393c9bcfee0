"""[6.1] to [6.5]: holdsets.games."""

import itertools
import unittest

from holdsets.errors import NoPlace, Ringed
from holdsets.games import best_moves, lengths_good, lengths_of, outcomes, play_good, play_of
from holdsets.marks import one_hold
from holdsets.numbers import numbers_of
from holdsets.rings import settled_marks
from holdsets.webs import leads_to
from tests.helper import (
    counted_webs, drawn_webs, even_webs, great_webs, holds_by_trial, is_place, ringless_webs, small_webs, webs_with, whatever,
)

PATH = (4, ((0, 1), (1, 2), (2, 3)))
TWO = (2, ((0, 1), (1, 0)))
THREE = (3, ((0, 1), (1, 2), (2, 0)))
# A ring of two, from which 1 may leave by 2 to the end 3, which would lose: so both go round.
ROUND = (4, ((0, 1), (1, 0), (1, 2), (2, 3)))
# A ring of two, from which 1 may leave to the end 2 and win.
LEFT = (3, ((0, 1), (1, 0), (1, 2)))
# From 0 two places are won, 1 and 2, by one move and by three; 6 is won by one move to the end 7, by three to 3.
SLOW = (8, ((0, 1), (0, 2), (1, 7), (2, 3), (3, 4), (4, 5), (6, 3), (6, 7)))
# Several best moves from each place but the ends: 0 to 1 and 2, these to 3 and 4, 5 to 0 or, as well, to 6.
WIDE = (8, ((0, 1), (0, 2), (1, 3), (1, 4), (2, 3), (2, 4), (5, 0), (5, 6), (6, 7), (7, 4)))


def all_webs():
    return small_webs() + drawn_webs() + even_webs() + great_webs() + counted_webs() + ringless_webs()


def lengths_by_turns(web):
    """Tell the lengths by asking, of more and more moves, where who is to move loses or wins within so many."""
    leads = [{b for a, b in web[1] if a == place} for place in range(web[0])]
    lengths = [None] * web[0]
    loses, wins = set(), set()
    for moves in range(web[0] + 2):
        lost = {place for place in range(web[0]) if leads[place] <= wins}
        won = {place for place in range(web[0]) if leads[place] & loses}
        loses, wins = lost, won
        for place in loses | wins:
            if lengths[place] is None:
                lengths[place] = moves
    return tuple(lengths)


def outcomes_by_turns(web):
    return ["open" if length is None else ("lost", "won")[length % 2] for length in lengths_by_turns(web)]


def best_by_words(web, place):
    """Tell the best moves by the words of the document."""
    lengths = lengths_by_turns(web)
    told = outcomes_by_turns(web)
    beneath = [b for b in range(web[0]) if (place, b) in web[1]]
    if told[place] == "open":
        return [b for b in beneath if told[b] == "open"]
    if told[place] == "won":
        return [b for b in beneath if told[b] == "lost" and lengths[b] == lengths[place] - 1]
    return [b for b in beneath if lengths[b] == lengths[place] - 1]


def plays_by_words(web, place):
    """Tell all plays of best moves from a place that is not open to the end."""
    if not any(a == place for a, b in web[1]):
        return [(place,)]
    return [(place,) + play for b in best_by_words(web, place) for play in plays_by_words(web, b)]


def is_lengths(web, thing):
    return repr(thing) == repr(lengths_by_turns(web))


class GamesTestCase(unittest.TestCase):
    def no_place(self, ask, web, *things):
        for thing in things:
            with self.subTest(ask=ask.__name__, web=web, thing=thing):
                with self.assertRaises(NoPlace) as caught:
                    ask(web, thing)
                self.assertIs(type(caught.exception), NoPlace)


class OutcomesTest(GamesTestCase):
    """[6.1]"""

    def test_all_settled(self):
        for web, told in (
            ((1, ()), ["lost"]), ((2, ((1, 0),)), ["lost", "won"]), (PATH, ["won", "lost", "won", "lost"]),
            (LEFT, ["lost", "won", "lost"]), (SLOW, ["lost", "won", "won", "lost", "won", "lost", "won", "lost"]),
            (WIDE, ["lost", "won", "won", "lost", "lost", "won", "lost", "won"]), ((40, ()), ["lost"] * 40),
        ):
            with self.subTest(web=web):
                self.assertEqual(repr(outcomes(web)), repr(told))

    def test_some_open(self):
        for web, told in (
            (TWO, ["open"] * 2), (THREE, ["open"] * 3), (ROUND, ["open", "open", "won", "lost"]),
            ((5, ((0, 1), (1, 0), (2, 0), (2, 3), (4, 0))), ["open", "open", "won", "lost", "open"]),
            ((5, ((0, 1), (1, 0), (2, 0), (2, 3), (4, 2))), ["open", "open", "won", "lost", "lost"]),
        ):
            with self.subTest(web=web):
                self.assertEqual(repr(outcomes(web)), repr(told))

    def test_forty_places(self):
        up = tuple((place, place + 1) for place in range(39))
        self.assertEqual(outcomes((40, up)), ["won", "lost"] * 20)
        self.assertEqual(outcomes((40, up + ((39, 38),))), ["open"] * 40)
        self.assertEqual(outcomes((40, up[:37] + ((37, 36), (37, 38), (38, 39)))), ["open"] * 38 + ["won", "lost"])
        self.assertEqual(outcomes((40, up[:36] + ((36, 35), (36, 37)))), ["won", "lost"] * 18 + ["won"] + ["lost"] * 3)

    def test_many_webs(self):
        seen = set()
        for web in all_webs():
            told = outcomes(web)
            self.assertIsInstance(told, list)
            self.assertEqual(told, outcomes_by_turns(web))
            seen |= set(told)
        self.assertEqual(seen, {"lost", "won", "open"})

    def test_what_each_can_see_to(self):
        for web in all_webs():
            told = outcomes(web)
            for place in range(web[0]):
                beneath = [told[b] for b in leads_to(web, place)]
                if told[place] == "lost":
                    self.assertEqual(set(beneath) - {"won"}, set())
                elif told[place] == "won":
                    self.assertIn("lost", beneath)
                else:
                    self.assertNotIn("lost", beneath)
                    self.assertIn("open", beneath)


class LengthsTest(GamesTestCase):
    """[6.2]"""

    def test_told(self):
        for web, lengths in (
            ((1, ()), (0,)), (PATH, (3, 2, 1, 0)), (TWO, (None, None)), (LEFT, (2, 1, 0)), (ROUND, (None, None, 1, 0)),
            (SLOW, (4, 1, 3, 2, 1, 0, 1, 0)), (WIDE, (2, 1, 1, 0, 0, 3, 2, 1)), ((3, ()), (0, 0, 0)),
        ):
            with self.subTest(web=web):
                self.assertEqual(repr(lengths_of(web)), repr(lengths))
                self.assertIs(lengths_good(web, lengths), True)

    def test_who_wins_wants_few_and_who_loses_many(self):
        self.assertEqual(lengths_of(SLOW)[6], 1)
        self.assertEqual(lengths_of(SLOW)[0], 4)
        # Two lost places of lengths 2 and 4 beneath 7.
        web = (8, ((0, 1), (1, 2), (2, 3), (3, 4), (5, 3), (6, 5), (7, 0), (7, 2)))
        self.assertEqual(lengths_of(web), (4, 3, 2, 1, 0, 2, 3, 3))

    def test_many_webs(self):
        for web in all_webs():
            lengths = lengths_of(web)
            self.assertIsInstance(lengths, tuple)
            self.assertEqual(repr(lengths), repr(lengths_by_turns(web)))
            self.assertIs(lengths_good(web, lengths), True)

    def test_the_words_of_the_document(self):
        for web in all_webs():
            lengths = lengths_of(web)
            told = outcomes(web)
            for place in range(web[0]):
                beneath = leads_to(web, place)
                if told[place] == "open":
                    self.assertIs(lengths[place], None)
                elif not beneath:
                    self.assertEqual(lengths[place], 0)
                elif told[place] == "won":
                    self.assertEqual(lengths[place], 1 + min(lengths[b] for b in beneath if told[b] == "lost"))
                else:
                    self.assertEqual({told[b] for b in beneath}, {"won"})
                    self.assertEqual(lengths[place], 1 + max(lengths[b] for b in beneath))

    def test_lengths_of_lost_places_are_even_of_won_ones_odd(self):
        for web in all_webs():
            for outcome, length in zip(outcomes(web), lengths_of(web)):
                self.assertEqual(outcome, "open" if length is None else ("lost", "won")[length % 2])

    def test_another_number_at_one_place(self):
        for web in small_webs() + ringless_webs()[::5] + even_webs()[::9] + [PATH, LEFT, ROUND, SLOW, WIDE, TWO]:
            lengths = lengths_of(web)
            for place in range(web[0]):
                others = [0, 1, 2, 3, 4, -1, 10 ** 99]
                if lengths[place] is not None:
                    others += [None, lengths[place] - 2, lengths[place] + 2, lengths[place] + 1]
                for other in others:
                    thing = lengths[:place] + (other,) + lengths[place + 1:]
                    self.assertIs(lengths_good(web, thing), repr(thing) == repr(lengths))

    def test_all_tuples_of_some_webs(self):
        for web in (TWO, THREE, LEFT, (3, ((0, 1), (1, 2))), (3, ((0, 1), (1, 0), (2, 0)))):
            right = lengths_by_turns(web)
            for thing in itertools.product((None, 0, 1, 2, 3), repeat=web[0]):
                self.assertIs(lengths_good(web, thing), thing == right)

    def test_truths_and_other_things_for_numbers(self):
        for thing in ((3, 2, True, 0), (3, 2, 1, False), (3, 2, True, False), ("3", "2", "1", "0"),
                      (3, 2, 1, None), (3, 2, 1, ()),
                      (3, 2, 1, []), (3, 2, [1], 0), (3, 2, 1, {}), (3, 2, 1, "")):
            self.assertIs(lengths_good(PATH, thing), False)
        for thing in ((None, False), (False, None), ("", None), ((), None), (0, None), (None, 0), (1, 0), (False, False)):
            self.assertIs(lengths_good(TWO, thing), False)

    def test_lists_and_one_more_or_fewer(self):
        for web in small_webs() + [PATH, ROUND, SLOW, (40, ())]:
            lengths = lengths_of(web)
            for thing in (list(lengths), lengths[1:], lengths[:-1], lengths + (0,), lengths + (None,), (0,) + lengths, (lengths,),
                          [lengths], dict(enumerate(lengths)), repr(lengths), None, ()):
                self.assertIs(lengths_good(web, thing), is_lengths(web, thing))
                self.assertIs(lengths_good(web, thing), False)

    def test_whatever(self):
        for web in ((1, ()), (2, ()), (2, ((1, 0),)), TWO, PATH, ROUND, (4, ((0, 1), (1, 0), (2, 3), (3, 2)))):
            for thing in whatever():
                with self.subTest(web=web, thing=thing):
                    self.assertIs(lengths_good(web, thing), is_lengths(web, thing))


class BestMovesTest(GamesTestCase):
    """[6.3]"""

    def test_lost_places(self):
        self.assertEqual(best_moves(SLOW, 0), [2])
        self.assertEqual(best_moves(SLOW, 3), [4])
        self.assertEqual(best_moves(WIDE, 0), [1, 2])
        self.assertEqual(best_moves(LEFT, 0), [1])

    def test_won_places(self):
        self.assertEqual(best_moves(SLOW, 6), [7])
        self.assertEqual(best_moves(SLOW, 1), [7])
        self.assertEqual(best_moves(WIDE, 1), [3, 4])
        self.assertEqual(best_moves(WIDE, 5), [0, 6])
        # A won place next to an open one and to a won one.
        web = (6, ((0, 1), (1, 0), (2, 0), (2, 3), (2, 4), (3, 4)))
        self.assertEqual(best_moves(web, 2), [4])

    def test_open_places(self):
        self.assertEqual(best_moves(TWO, 0), [1])
        self.assertEqual(best_moves(ROUND, 1), [0])
        self.assertEqual(best_moves(ROUND, 0), [1])
        self.assertEqual(best_moves((4, ((0, 1), (0, 2), (1, 0), (2, 0), (3, 0))), 0), [1, 2])

    def test_none_of_a_place_that_leads_nowhere(self):
        for web, place in (((1, ()), 0), (PATH, 3), (SLOW, 5), (SLOW, 7), (WIDE, 4), ((40, ()), 39)):
            self.assertEqual(best_moves(web, place), [])

    def test_many_webs(self):
        for web in small_webs() + counted_webs() + drawn_webs()[::7] + even_webs()[::11] + ringless_webs()[::9]:
            for place in range(web[0]):
                told = best_moves(web, place)
                self.assertIsInstance(told, list)
                self.assertEqual(repr(told), repr(best_by_words(web, place)))
                self.assertEqual(told == [], leads_to(web, place) == [])

    def test_no_place(self):
        for web in ((1, ()), PATH, TWO, (40, ())):
            self.no_place(best_moves, web, *[thing for thing in whatever() if not is_place(web, thing)])
            self.no_place(best_moves, web, True, False, -1, web[0], "0", (0,), [0], None, 10 ** 99)


class PlayTest(GamesTestCase):
    """[6.4]"""

    def good(self, web, *things):
        for thing in things:
            with self.subTest(web=web, thing=thing):
                self.assertIs(play_good(web, thing), True)

    def bad(self, web, *things):
        for thing in things:
            with self.subTest(web=web, thing=thing):
                self.assertIs(play_good(web, thing), False)

    def test_plays(self):
        self.good((1, ()), (0,))
        self.good(PATH, (0, 1, 2, 3), (1, 2, 3), (2, 3), (3,))
        self.good(SLOW, (0, 2, 3, 4, 5), (6, 7), (1, 7), (7,), (5,))
        self.good(WIDE, (0, 1, 3), (0, 2, 4), (5, 0, 1, 4), (5, 6, 7, 4), (5, 0, 2, 3))
        self.good(LEFT, (0, 1, 2), (1, 2), (2,))
        self.good((40, ()), (0,), (39,))

    def test_a_move_that_is_not_best(self):
        self.bad(SLOW, (0, 1, 7), (6, 3, 4, 5))
        self.bad(LEFT, (1, 0, 1, 2), (0, 1, 0, 1, 2))
        self.bad(ROUND, (1, 2, 3), (0, 1, 2, 3))
        self.good(ROUND, (2, 3))

    def test_what_is_no_arrow(self):
        self.bad(PATH, (0, 3), (1, 3), (3, 2), (0, 2, 3), (3, 3), (2, 3, 3), (3, 2, 3), (2, 2, 3))

    def test_one_that_stops_ahead_of_the_end(self):
        self.bad(PATH, (0,), (0, 1), (0, 1, 2), (1, 2), (2,))
        self.bad(SLOW, (0, 2, 3, 4), (6,))
        self.bad(LEFT, (0, 1), (1,))

    def test_from_an_open_place(self):
        self.bad(TWO, (0,), (1,), (0, 1), (0, 1) * 30)
        self.bad(THREE, (0, 1, 2), (0, 1, 2, 0))
        self.bad(ROUND, (0,), (1,), (0, 1), (1, 0), (0, 1, 2, 3), (1, 2, 3))

    def test_other_things(self):
        self.bad(PATH, (), [], [3], [0, 1, 2, 3], {3: 3}, "3", 3, None, True,
                 ((3,),), ([3],), (2, [3]), (2, None), (2, "3"), (None, 3))
        self.bad((2, ((1, 0),)), (True, 0), (1, False), (True, False), (False,), [1, 0])
        self.bad((1, ()), (False,), (-1,), (1,), (10 ** 99,))
        self.bad(PATH, (2, 3, 4), (-1, 0, 1, 2, 3), (2, -1), (4,), (-1,), (2, 10 ** 99))
        self.good((2, ((1, 0),)), (1, 0))

    def test_all_ways_of_small_webs(self):
        for web in small_webs()[::2] + [PATH, LEFT, ROUND]:
            told = outcomes(web)
            right = [play for place in range(web[0]) if told[place] != "open" for play in plays_by_words(web, place)]
            for count in range(1, 5):
                for way in itertools.product(range(web[0]), repeat=count):
                    self.assertIs(play_good(web, way), way in right)

    def test_whatever(self):
        for web in ((1, ()), (2, ((1, 0),)), (2, ()), TWO, (4, ((3, 2), (2, 1), (1, 0)))):
            told = outcomes(web)
            places = [place for place in range(web[0]) if told[place] != "open"]
            right = [repr(play) for place in places for play in plays_by_words(web, place)]
            for thing in whatever():
                with self.subTest(web=web, thing=thing):
                    self.assertIs(play_good(web, thing), repr(thing) in right)

    def test_the_least_play(self):
        self.assertEqual(play_of(WIDE, 5), (5, 0, 1, 3))
        self.assertEqual(play_of(WIDE, 0), (0, 1, 3))
        self.assertEqual(play_of(WIDE, 6), (6, 7, 4))
        self.assertEqual(play_of(SLOW, 0), (0, 2, 3, 4, 5))
        self.assertEqual(play_of(SLOW, 6), (6, 7))
        self.assertEqual(play_of(PATH, 0), (0, 1, 2, 3))
        self.assertEqual(play_of((1, ()), 0), (0,))
        self.assertEqual(play_of((40, tuple((place, place + 1) for place in range(39))), 0), tuple(range(40)))

    def test_none_of_an_open_place(self):
        for web, place in ((TWO, 0), (TWO, 1), (THREE, 2), (ROUND, 0), (ROUND, 1)):
            self.assertIs(play_of(web, place), None)

    def test_least_of_all_plays(self):
        several = 0
        for web in small_webs() + counted_webs() + webs_with(4, 31):
            told = outcomes(web)
            for place in range(web[0]):
                if told[place] == "open":
                    self.assertIs(play_of(web, place), None)
                else:
                    plays = plays_by_words(web, place)
                    several += len(plays) > 1
                    self.assertEqual(repr(play_of(web, place)), repr(min(plays)))
                    self.good(web, *plays[:10])
        self.assertGreater(several, 50)

    def test_great_webs(self):
        for web in great_webs() + ringless_webs() + even_webs()[::4]:
            told = outcomes(web)
            for place in range(web[0]):
                play = play_of(web, place)
                if told[place] == "open":
                    self.assertIs(play, None)
                else:
                    self.assertEqual(play[0], place)
                    self.good(web, play)
                    self.bad(web, play[:-1], list(play), play + (place,))

    def test_no_place(self):
        for web in ((1, ()), PATH, TWO, (40, ())):
            self.no_place(play_of, web, *[thing for thing in whatever() if not is_place(web, thing)])
            self.no_place(play_of, web, True, False, -1, web[0], "0", (0,), [0], None, 10 ** 99)


class SoTest(GamesTestCase):
    """[6.5]"""

    def webs(self):
        return small_webs() + webs_with(4, 7) + counted_webs()

    def test_each_hold_has_each_lost_place_and_no_won_one(self):
        for web in self.webs():
            told = outcomes(web)
            for hold in holds_by_trial(web):
                for place in range(web[0]):
                    self.assertNotEqual(told[place], "won" if place in hold else "lost")

    def test_where_no_place_is_open_the_lost_ones_are_the_only_hold(self):
        ringed = 0
        for web in self.webs():
            told = outcomes(web)
            if "open" not in told:
                self.assertEqual(holds_by_trial(web), [tuple(place for place in range(web[0]) if told[place] == "lost")])
                try:
                    one_hold(web)
                except Ringed:
                    ringed += 1
        self.assertGreater(ringed, 20)

    def test_lost_just_where_settled_as_in_won_just_where_settled_as_out(self):
        for web in all_webs():
            words = {True: "lost", False: "won", None: "open"}
            self.assertEqual(outcomes(web), [words[mark] for mark in settled_marks(web)])

    def test_each_play_has_as_many_moves_as_the_length_of_its_first_place(self):
        for web in self.webs() + [SLOW, WIDE]:
            lengths = lengths_of(web)
            for place in range(web[0]):
                if lengths[place] is not None:
                    for play in plays_by_words(web, place):
                        self.assertIs(play_good(web, play), True)
                        self.assertEqual(len(play) - 1, lengths[place])
        for web in ringless_webs():
            for place, length in enumerate(lengths_of(web)):
                self.assertEqual(len(play_of(web, place)) - 1, length)

    def test_without_rings_a_place_is_lost_just_where_its_number_is_0(self):
        for web in ringless_webs():
            self.assertEqual([number == 0 for number in numbers_of(web)], [outcome == "lost" for outcome in outcomes(web)])


if __name__ == "__main__":
    unittest.main()
