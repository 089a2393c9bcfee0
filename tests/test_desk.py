"""[10.2] to [10.4]: the desk."""

import random
import unittest

from holdsets.desk import Desk
from holdsets.errors import NoPlace, NoRow, NoWeb, Ringed, TooGreat, WebError
from holdsets.games import best_moves, lengths_of, outcomes
from holdsets.numbers import numbers_of
from holdsets.texts import web_read, web_shown
from holdsets.webs import ends_of, order_of
from tests.helper import (
    drawn_webs, has_odd_way_back, holds_by_trial, is_lost, is_ring, pairs_of, settled_by_layers, small_webs, whatever,
)

DEEDS = ("web", "arrow", "cut", "turn", "among", "grow")
PLAIN_QUESTIONS = (
    "arrows", "ends", "look", "holds", "first", "always", "never", "settled", "ring", "numbers", "shown",
)
ALL_WORDS = DEEDS + PLAIN_QUESTIONS + ("back", "game", "moves")
# How many numbers may stand behind a word, of none to five.
COUNTS = {word: (0,) for word in ("turn", "back") + PLAIN_QUESTIONS}
COUNTS.update({word: (1,) for word in ("web", "game", "moves")})
COUNTS.update({word: (2,) for word in ("arrow", "cut")})
COUNTS.update({"among": (1, 2, 3, 4, 5), "grow": (0, 1, 2, 3, 4, 5), "look": (0, 1, 2, 3, 4, 5)})
GREAT = "9" * 60


def desk_of(web):
    """A desk that was told, row by row, to keep the web."""
    desk = Desk()
    for row in rows_for(web):
        desk.say(row)
    return desk


def rows_for(web):
    return ["web " + str(web[0])] + ["arrow " + str(a) + " " + str(b) for a, b in web[1]]


def web_at(desk):
    return web_read(desk.say("shown").replace(" ; ", "\n"))


def joined(things):
    return " ".join(str(thing) for thing in things) or "none"


def asked(desk, row):
    """Tell the answer, or the refusal with its fields, but a ring's places."""
    try:
        return desk.say(row)
    except WebError as refusal:
        fields = {} if isinstance(refusal, Ringed) else vars(refusal)
        return (type(refusal).__name__, fields)


def deed_by_words(web, row):
    """Tell the web behind the deed, or its refusal, by the words of the document."""
    many, arrows = web
    word, *numbers = row.split(" ")
    numbers = tuple(int(number) for number in numbers)
    places = all(0 <= number < many for number in numbers)
    if word == "web":
        return (numbers[0], ()) if 1 <= numbers[0] <= 40 else ("NoWeb", {"number": -1})
    if word == "turn":
        return (many, tuple(sorted((b, a) for a, b in arrows)))
    if not places or word in ("among", "grow") and list(numbers) != sorted(set(numbers)):
        return ("NoPlace", {})
    if word == "arrow":
        if numbers[0] == numbers[1] or numbers in arrows or len(arrows) == 200:
            return ("NoWeb", {"number": len(arrows)})
        return (many, tuple(sorted(arrows + (numbers,))))
    if word == "cut":
        if numbers not in arrows:
            return ("NoWeb", {"number": len(arrows)})
        return (many, tuple(arrow for arrow in arrows if arrow != numbers))
    if word == "among":
        kept = [(a, b) for a, b in arrows if a in numbers and b in numbers]
        return (len(numbers), tuple(sorted((numbers.index(a), numbers.index(b)) for a, b in kept)))
    if many == 40:
        return ("TooGreat", {"many": 41, "most": 40})
    if len(arrows) + len(numbers) > 200:
        return ("TooGreat", {"many": len(arrows) + len(numbers), "most": 200})
    return (many + 1, tuple(sorted(arrows + tuple((many, place) for place in numbers))))


def look_by_words(web, numbers):
    if not all(0 <= number < web[0] for number in numbers) or list(numbers) != sorted(set(numbers)):
        return ("NoPlace", {})
    for a, b in web[1]:
        if a in numbers and b in numbers:
            return "tied " + str(a) + " " + str(b)
    for place in range(web[0]):
        if is_lost(web, numbers, place):
            return "lost " + str(place)
    return "hold"


def holds_by_words(web, word):
    if web[0] > 12:
        return ("TooGreat", {"many": web[0], "most": 12})
    holds = holds_by_trial(web)
    if word == "holds":
        return str(len(holds))
    if word == "first":
        return joined(holds[0]) if holds else "none"
    if word == "always":
        return joined([place for place in range(web[0]) if all(place in hold for hold in holds)])
    return joined([place for place in range(web[0]) if all(place not in hold for hold in holds)])


def answer_by_words(web, row):
    """Tell the answer to the question, or its refusal, by the words of the document."""
    word, *numbers = row.split(" ")
    numbers = tuple(int(number) for number in numbers)
    if word == "look":
        return look_by_words(web, numbers)
    if word in ("holds", "first", "always", "never"):
        return holds_by_words(web, word)
    if word in ("game", "moves"):
        if numbers[0] >= web[0]:
            return ("NoPlace", {})
        if word == "moves":
            return joined(best_moves(web, numbers[0]))
        length = lengths_of(web)[numbers[0]]
        return outcomes(web)[numbers[0]] + ("" if length is None else " " + str(length))
    if word == "arrows":
        return joined(str(a) + "-" + str(b) for a, b in web[1])
    if word == "ends":
        return joined(ends_of(web))
    if word == "settled":
        return joined({True: "in", False: "out", None: "-"}[mark] for mark in settled_by_layers(web))
    if word == "ring":
        return "odd" if has_odd_way_back(web) else "none"
    if word == "numbers":
        return joined(numbers_of(web)) if order_of(web)[0] == "order" else ("Ringed", {})
    return web_shown(web).replace("\n", " ; ")


def questions_of(web):
    """All questions without numbers, and some with some."""
    rows = list(PLAIN_QUESTIONS)
    for place in sorted({0, 1, web[0] // 2, web[0] - 1, web[0]}):
        rows += ["game " + str(place), "moves " + str(place), "look " + str(place), "look 0 " + str(place)]
    return rows


class DeskTestCase(unittest.TestCase):
    def refused(self, kind, fields, desk, row):
        with self.subTest(row=row):
            ahead = desk.say("shown")
            with self.assertRaises(kind) as caught:
                desk.say(row)
            self.assertIs(type(caught.exception), kind)
            self.assertEqual(vars(caught.exception), fields)
            self.assertEqual(desk.say("shown"), ahead)

    def told(self, desk, *rows_and_answers):
        for row, answer in zip(rows_and_answers[::2], rows_and_answers[1::2]):
            with self.subTest(row=row):
                told = desk.say(row)
                self.assertIsInstance(told, str)
                self.assertEqual(told, answer)


class DeedTest(DeskTestCase):
    """[10.2]"""

    def test_at_first(self):
        self.told(
            Desk(), "shown", "web 1", "arrows", "none", "ends", "0", "look", "lost 0", "look 0", "hold", "holds", "1",
            "first", "0",
            "always", "0", "never", "none", "settled", "in", "ring", "none", "game 0", "lost 0", "moves 0", "none",
            "numbers", "0",
        )

    def test_web(self):
        desk = Desk()
        self.told(desk, "web 3", "ok", "arrow 0 1", "ok", "web 40", "ok", "shown", "web 40", "web 1", "ok", "shown", "web 1")
        for many in (0, 41, 42, 100, int(GREAT)):
            self.refused(NoWeb, {"number": -1}, desk, "web " + str(many))

    def test_arrow(self):
        desk = Desk()
        self.told(
            desk, "web 3", "ok", "arrow 2 0", "ok", "arrow 0 1", "ok", "arrow 0 2", "ok", "arrows", "0-1 0-2 2-0",
            "shown", "web 3 ; arrow 0 1 ; arrow 0 2 ; arrow 2 0",
        )
        for row in ("arrow 0 3", "arrow 3 0", "arrow 3 3", "arrow 40 41", "arrow 0 " + GREAT, "arrow " + GREAT + " 0"):
            self.refused(NoPlace, {}, desk, row)
        for row in ("arrow 0 0", "arrow 2 2", "arrow 0 1", "arrow 2 0"):
            self.refused(NoWeb, {"number": 3}, desk, row)
        self.refused(NoWeb, {"number": 0}, Desk(), "arrow 0 0")
        self.refused(NoPlace, {}, Desk(), "arrow 0 1")

    def test_two_hundred_arrows(self):
        pairs = pairs_of(40)
        desk = desk_of((40, tuple(pairs[:199])))
        self.told(desk, "arrow 39 0", "ok")
        for row in ("arrow 39 1", "arrow 39 0", "arrow 3 3"):
            self.refused(NoWeb, {"number": 200}, desk, row)
        self.refused(NoPlace, {}, desk, "arrow 39 40")
        self.refused(NoPlace, {}, desk, "arrow 40 40")
        self.told(desk, "cut 0 1", "ok", "arrow 39 1", "ok")
        self.refused(NoWeb, {"number": 200}, desk, "arrow 0 1")
        self.assertEqual(len(web_at(desk)[1]), 200)

    def test_cut(self):
        desk = desk_of((3, ((0, 1), (1, 0), (1, 2))))
        self.told(desk, "cut 1 0", "ok", "arrows", "0-1 1-2")
        for row in ("cut 1 0", "cut 2 1", "cut 0 2", "cut 0 0", "cut 2 2"):
            self.refused(NoWeb, {"number": 2}, desk, row)
        for row in ("cut 0 3", "cut 3 0", "cut 3 3", "cut 1 " + GREAT):
            self.refused(NoPlace, {}, desk, row)
        self.told(desk, "cut 0 1", "ok", "cut 1 2", "ok", "arrows", "none", "shown", "web 3")
        self.refused(NoWeb, {"number": 0}, desk, "cut 0 1")

    def test_turn(self):
        desk = desk_of((3, ((0, 2), (1, 0))))
        self.told(desk, "turn", "ok", "arrows", "0-1 2-0", "turn", "ok", "arrows", "0-2 1-0")
        self.told(Desk(), "turn", "ok", "shown", "web 1")

    def test_among(self):
        web = (5, ((0, 1), (1, 3), (3, 4), (4, 1)))
        self.told(desk_of(web), "among 1 3 4", "ok", "shown", "web 3 ; arrow 0 1 ; arrow 1 2 ; arrow 2 0")
        self.told(desk_of(web), "among 2", "ok", "shown", "web 1")
        self.told(desk_of(web), "among 0 1 2 3 4", "ok", "arrows", "0-1 1-3 3-4 4-1")
        desk = desk_of(web)
        for row in ("among 5", "among 0 5", "among 1 0", "among 0 0", "among 0 1 1", "among 4 2 3", "among 6 5"):
            self.refused(NoPlace, {}, desk, row)
        self.refused(NoPlace, {}, desk, "among 0 " + GREAT)

    def test_grow(self):
        desk = desk_of((3, ((0, 1),)))
        self.told(desk, "grow 0 2", "ok", "shown", "web 4 ; arrow 0 1 ; arrow 3 0 ; arrow 3 2")
        self.told(desk, "grow", "ok", "shown", "web 5 ; arrow 0 1 ; arrow 3 0 ; arrow 3 2", "ends", "1 2 4")
        self.told(desk, "grow 0 1 2 3 4", "ok", "arrows", "0-1 3-0 3-2 5-0 5-1 5-2 5-3 5-4")
        for row in ("grow 6", "grow 0 6", "grow 1 0", "grow 1 1", "grow 0 1 7", "grow " + GREAT):
            self.refused(NoPlace, {}, desk, row)

    def test_grow_too_great(self):
        desk = desk_of((40, tuple(pairs_of(40)[:200])))
        for row in ("grow", "grow 0", "grow 0 39"):
            self.refused(TooGreat, {"many": 41, "most": 40}, desk, row)
        for row in ("grow 40", "grow 1 0", "grow 0 40"):
            self.refused(NoPlace, {}, desk, row)
        desk = desk_of((39, tuple(pairs_of(39)[:198])))
        self.refused(TooGreat, {"many": 201, "most": 200}, desk, "grow 0 1 2")
        self.refused(TooGreat, {"many": 202, "most": 200}, desk, "grow 0 1 2 38")
        self.refused(NoPlace, {}, desk, "grow 0 1 39")
        self.told(desk, "grow 0 1", "ok")
        self.assertEqual(web_at(desk)[0], 40)

    def test_each_deed_by_words(self):
        drawn = random.Random(21)
        webs = small_webs()[::9] + drawn_webs()[::7] + [(40, tuple(pairs_of(40)[:200])), (38, tuple(pairs_of(38)[:199]))]
        for web in webs:
            for _ in range(25):
                row = drawn_deed(drawn, web[0])
                desk = desk_of(web)
                wanted = deed_by_words(web, row)
                with self.subTest(web=web, row=row):
                    if isinstance(wanted[0], str):
                        self.assertEqual(asked(desk, row), wanted)
                        self.assertEqual(web_at(desk), web)
                    else:
                        self.assertEqual(desk.say(row), "ok")
                        self.assertEqual(web_at(desk), wanted)
                        self.assertEqual(desk.say("back"), "ok")
                        self.assertEqual(web_at(desk), web)


def drawn_deed(drawn, many):
    """A deed, mostly one of a web of about so many places."""
    def number():
        return str(drawn.choice((drawn.randrange(many), drawn.randrange(many), drawn.randrange(many + 1), 0, many)))
    word = drawn.choice(DEEDS)
    if word == "web":
        return "web " + str(drawn.choice((0, 1, 2, 3, 5, 39, 40, 41)))
    if word == "turn":
        return word
    if word in ("arrow", "cut"):
        return word + " " + number() + " " + number()
    numbers = [number() for _ in range(drawn.randrange(1 if word == "among" else 0, 4))]
    if drawn.random() < 0.8:
        numbers = sorted(set(numbers), key=int)
    return " ".join([word] + numbers)


class BackTest(DeskTestCase):
    """[10.2]"""

    def test_none_stands(self):
        desk = Desk()
        self.refused(NoRow, {}, desk, "back")
        self.told(desk, "holds", "1")
        self.refused(NoRow, {}, desk, "back")
        self.told(desk, "web 2", "ok", "back", "ok", "shown", "web 1")
        self.refused(NoRow, {}, desk, "back")

    def test_back_of_each_deed(self):
        web = (4, ((0, 1), (1, 2), (3, 0)))
        shown = "web 4 ; arrow 0 1 ; arrow 1 2 ; arrow 3 0"
        for row in ("web 2", "web 4", "arrow 2 3", "cut 1 2", "turn", "among 0 1 3", "among 0 1 2 3", "grow", "grow 0 3"):
            self.told(desk_of(web), row, "ok", "back", "ok", "shown", shown)

    def test_back_over_several(self):
        desk = Desk()
        rows = ["web 3", "arrow 0 1", "grow 0", "turn", "cut 1 0", "among 0 2", "web 5", "arrow 4 0"]
        shown = [desk.say("shown")]
        for row in rows:
            self.told(desk, row, "ok")
            shown.append(desk.say("shown"))
        while len(shown) > 1:
            self.assertEqual(desk.say("shown"), shown.pop())
            self.told(desk, "back", "ok")
        self.told(desk, "shown", "web 1")
        self.refused(NoRow, {}, desk, "back")

    def test_back_undoes_no_back(self):
        desk = Desk()
        self.told(desk, "web 3", "ok", "arrow 0 1", "ok", "back", "ok", "back", "ok", "shown", "web 1")
        self.told(desk, "web 4", "ok", "arrow 1 2", "ok", "back", "ok", "arrow 3 0", "ok", "back", "ok", "shown", "web 4")

    def test_what_is_refused_or_asked_is_nothing_to_undo(self):
        desk = Desk()
        self.told(desk, "web 2", "ok", "arrow 0 1", "ok")
        for row in ("arrow 0 1", "arrow 0 5", "cut 1 0", "web 0", "among 7", "grow 9", "no", None, "back 1"):
            asked(desk, row)
        self.told(desk, "arrows", "0-1", "holds", "1", "back", "ok", "shown", "web 2", "back", "ok", "shown", "web 1")

    def test_deeds_that_change_nothing_stand_too(self):
        desk = Desk()
        self.told(desk, "web 1", "ok", "turn", "ok", "among 0", "ok", "back", "ok", "back", "ok", "back", "ok")
        self.refused(NoRow, {}, desk, "back")

    def test_a_thousand_deeds(self):
        desk = Desk()
        desk.say("web 3")
        for _ in range(500):
            self.told(desk, "arrow 0 1", "ok", "cut 0 1", "ok")
        for _ in range(999):
            desk.say("back")
        self.told(desk, "arrows", "0-1", "back", "ok", "shown", "web 3", "back", "ok", "shown", "web 1")


class QuestionTest(DeskTestCase):
    """[10.3]"""

    def test_a_path(self):
        self.told(
            desk_of((4, ((0, 1), (1, 2), (2, 3)))), "arrows", "0-1 1-2 2-3", "ends", "3", "look", "lost 0", "look 1 3", "hold",
            "look 0 1", "tied 0 1", "look 1", "lost 2", "look 3", "lost 0", "holds", "1", "first", "1 3", "always", "1 3",
            "never", "0 2", "settled", "out in out in", "ring", "none", "game 0", "won 3", "game 1", "lost 2", "game 3", "lost 0",
            "moves 0", "1", "moves 3", "none", "numbers", "1 0 1 0", "shown", "web 4 ; arrow 0 1 ; arrow 1 2 ; arrow 2 3",
        )

    def test_an_odd_ring(self):
        desk = desk_of((3, ((0, 1), (1, 2), (2, 0))))
        self.told(
            desk, "ends", "none", "look", "lost 0", "look 0", "lost 1", "holds", "0", "first", "none", "always", "0 1 2",
            "never", "0 1 2", "settled", "- - -", "ring", "odd", "game 1", "open", "moves 1", "2",
        )
        with self.assertRaises(Ringed) as caught:
            desk.say("numbers")
        self.assertTrue(is_ring((3, ((0, 1), (1, 2), (2, 0))), caught.exception.ring))

    def test_two_rings_of_two(self):
        self.told(
            desk_of((4, ((0, 1), (1, 0), (2, 3), (3, 2)))), "ends", "none", "holds", "4", "first", "0 2", "always", "none",
            "never", "none", "ring", "none", "settled", "- - - -", "game 3", "open", "moves 3", "2", "look 0 3", "hold",
        )

    def test_some_settled_and_several_best_moves(self):
        web = (8, ((0, 1), (0, 6), (1, 0), (1, 2), (1, 3), (4, 2), (4, 3), (5, 6), (6, 5), (6, 7), (7, 5)))
        self.told(
            desk_of(web), "settled", "- out in in out - - -", "moves 1", "2 3", "moves 4", "2 3", "moves 6", "5 7",
            "moves 0", "6",
            "game 0", "open", "game 1", "won 1", "game 4", "won 1", "game 2", "lost 0", "ring", "odd", "ends", "2 3",
        )

    def test_over_webs_by_words(self):
        webs = small_webs()[::5] + [web for web in drawn_webs()[::3] if web[0] <= 9 or web[0] > 12]
        for web in webs:
            desk = desk_of(web)
            for row in questions_of(web):
                with self.subTest(web=web, row=row):
                    self.assertEqual(asked(desk, row), answer_by_words(web, row))
            self.assertEqual(web_at(desk), web)

    def test_a_great_web(self):
        web = (40, tuple(pairs_of(40)[:200]))
        desk = desk_of(web)
        for row in questions_of(web):
            with self.subTest(row=row):
                self.assertEqual(asked(desk, row), answer_by_words(web, row))

    def test_look(self):
        desk = desk_of((5, ((0, 1), (1, 2), (3, 2), (4, 0))))
        for numbers in [(), (0,), (0, 2), (2, 4), (0, 2, 3), (1, 2, 3, 4), (0, 1, 2, 3, 4), (1, 4)]:
            row = " ".join(["look"] + [str(number) for number in numbers])
            self.assertEqual(desk.say(row), look_by_words(web_at(desk), numbers))
        for row in ("look 5", "look 0 5", "look 1 0", "look 0 0", "look 2 1 3", "look " + GREAT, "look 0 1 " + GREAT):
            self.refused(NoPlace, {}, desk, row)

    def test_twelve_places_and_thirteen(self):
        desk = desk_of((12, ((0, 1), (1, 0))))
        self.told(
            desk, "holds", "2", "first", "0 2 3 4 5 6 7 8 9 10 11", "always", "2 3 4 5 6 7 8 9 10 11", "never", "none",
            "grow 0 1", "ok",
        )
        for row in ("holds", "first", "always", "never"):
            self.refused(TooGreat, {"many": 13, "most": 12}, desk, row)
        self.told(desk, "web 40", "ok")
        for row in ("holds", "first", "always", "never"):
            self.refused(TooGreat, {"many": 40, "most": 12}, desk, row)

    def test_game_and_moves_refused(self):
        desk = desk_of((3, ((0, 1), (1, 0))))
        for word in ("game", "moves"):
            for number in ("3", "4", "40", GREAT):
                self.refused(NoPlace, {}, desk, word + " " + number)

    def test_numbers_refused(self):
        for web in ((2, ((0, 1), (1, 0))), (5, ((0, 1), (1, 2), (2, 3), (3, 1), (4, 0)))):
            desk = desk_of(web)
            with self.assertRaises(Ringed) as caught:
                desk.say("numbers")
            self.assertTrue(is_ring(web, caught.exception.ring))
            self.assertEqual(web_at(desk), web)

    def test_questions_change_nothing(self):
        web = (5, ((0, 1), (1, 2), (2, 0), (3, 4)))
        desk = desk_of(web)
        first = [asked(desk, row) for row in questions_of(web)]
        self.assertEqual([asked(desk, row) for row in questions_of(web)[::-1]], first[::-1])
        self.assertEqual(web_at(desk), web)


class NoRowTest(DeskTestCase):
    """[10.4]"""

    def test_whatever_is_no_text(self):
        desk = desk_of((3, ((0, 1),)))
        for thing in whatever() + [["ends"], ("ends",), {"ends": "ends"}, [["web", 1]], 5, ("web", 1)]:
            self.refused(NoRow, {}, desk, thing)

    def test_other_words(self):
        desk = Desk()
        for row in (
            "", " ", "  ", "end", "Ends", "ENDS", "endss", "hold", "hold 0", "tied", "lost", "none", "ok", "undo",
            "quit", "help", "0",
            "0 1", "1", "-", ";", "arrow-0-1", "arrow0 1", "webs 1", "odd", "out", "in", "rings", "games 0", "move 0", "number",
            "web 2 ; arrow 0 1", "web 2;", "~", "None", "look;",
        ):
            self.refused(NoRow, {}, desk, row)

    def test_other_numbers_of_words(self):
        self.assertEqual(len(ALL_WORDS), 20)
        for word in ALL_WORDS:
            for count in range(6):
                if count not in COUNTS[word]:
                    for number in ("0", "1", "99", GREAT):
                        for desk in (Desk(), desk_of((6, ((0, 1), (1, 0))))):
                            self.refused(NoRow, {}, desk, " ".join([word] + [number] * count))

    def test_words_that_are_no_numbers(self):
        for word in ALL_WORDS:
            for count in COUNTS[word]:
                for place in range(count):
                    for bad in (
                        "", "a", "-1", "+1", "01", "00", "1.0", "1a", "0x1", "1_0", "one", "-0", "1" * 61, "0" * 60,
                        "1" * 5000, "1\n",
                        "\n", "\t1", "1\t", "1\r", "0-1", "(0)", "'0'", "None", "True", "\u0661", "\u00b2", "~", ",",
                    ):
                        numbers = [str(number) for number in range(count)]
                        numbers[place] = bad
                        self.refused(NoRow, {}, Desk(), " ".join([word] + numbers))

    def test_blanks(self):
        for row in ("ends", "look 0", "arrow 0 1", "web 3", "back", "grow", "look", "among 0 1"):
            for changed in (" " + row, row + " ", "  " + row, row + "  ", row.replace(" ", "  ") + " " * (" " not in row)):
                self.refused(NoRow, {}, desk_of((3, ())), changed)

    def test_line_feeds(self):
        for row in ("ends", "look 0", "arrow 0 1", "web 3", "back", "grow", "turn"):
            for changed in ("\n" + row, row + "\n", row + "\n" + row, row.replace(" ", "\n", 1) + "\n", row + "\r\n"):
                self.refused(NoRow, {}, desk_of((3, ())), changed)
        self.refused(NoRow, {}, Desk(), web_shown((3, ((0, 1),))))
        self.refused(NoRow, {}, Desk(), "\n")

    def test_ahead_of_all_else(self):
        great = desk_of((40, tuple(pairs_of(40)[:200])))
        for row in (
            "web 41 0", "web 41a", "web 0 0", "arrow 40 40 40", "arrow 0 0 0", "arrow 40 x", "cut 40 x", "cut 40", "among 40 x",
            "among", "grow 40 x", "grow 0 01", "look 40 x", "holds 0", "first 0", "always 0", "never x", "game 40 0", "game 40x",
            "moves x", "moves 40 40", "numbers 0", "back 0",
        ):
            self.refused(NoRow, {}, great, row)

    def test_sixty_figures_are_a_number(self):
        desk = desk_of((3, ()))
        self.refused(NoWeb, {"number": -1}, desk, "web " + GREAT)
        for row in ("arrow 0 ", "cut 0 ", "among 0 ", "grow ", "look ", "game ", "moves "):
            self.refused(NoPlace, {}, desk, row + GREAT)
            self.refused(NoRow, {}, desk, row + "9" + GREAT)


class StandingTest(DeskTestCase):
    """[10.2] and [10.4]: what is answered hangs on the deeds that stand, in their order, alone."""

    def test_by_replay(self):
        drawn = random.Random(22)
        for _ in range(40):
            desk, standing = Desk(), []
            for _ in range(60):
                many = web_at(desk)[0]
                kind = drawn.random()
                if kind < 0.6:
                    row = drawn_deed(drawn, many)
                    if row == "web 40" and drawn.random() < 0.7:
                        continue
                    if asked(desk, row) == "ok":
                        standing.append(row)
                elif kind < 0.75:
                    self.assertEqual(asked(desk, "back"), "ok" if standing else ("NoRow", {}))
                    standing = standing[:-1]
                elif kind < 0.95:
                    asked(desk, drawn.choice(questions_of(web_at(desk))))
                else:
                    asked(desk, drawn.choice([None, "", "no", "web", "back 0", ("back",)]))
            other = Desk()
            for row in standing:
                self.assertEqual(other.say(row), "ok")
            web = (1, ())
            for row in standing:
                web = deed_by_words(web, row)
            self.assertEqual(web_at(desk), web)
            for row in questions_of(web):
                self.assertEqual(asked(desk, row), asked(other, row))
            for _ in standing:
                self.assertEqual((desk.say("back"), other.say("back")), ("ok", "ok"))
                self.assertEqual(web_at(desk), web_at(other))
            self.refused(NoRow, {}, desk, "back")

    def test_two_desks_have_nothing_in_common(self):
        one, other = Desk(), Desk()
        self.told(one, "web 3", "ok", "arrow 0 1", "ok")
        self.told(other, "shown", "web 1")
        self.refused(NoRow, {}, other, "back")
        self.told(other, "web 2", "ok", "grow 0", "ok", "turn", "ok")
        self.told(one, "shown", "web 3 ; arrow 0 1", "back", "ok", "shown", "web 3", "back", "ok")
        self.told(other, "shown", "web 3 ; arrow 0 2")
        self.refused(NoRow, {}, one, "back")
        self.told(Desk(), "shown", "web 1")

    def test_the_same_rows_have_the_same_answers(self):
        rows = rows_for((5, ((0, 1), (1, 2), (2, 0), (3, 4)))) + ["grow 0 4", "back", "cut 0 1", "turn"]
        first = [asked(Desk(), row) for row in rows]
        one, other = Desk(), Desk()
        for row in rows:
            self.assertEqual(asked(one, row), asked(other, row))
        self.assertEqual([asked(Desk(), row) for row in rows], first)


if __name__ == "__main__":
    unittest.main()
