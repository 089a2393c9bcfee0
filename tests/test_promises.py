"""[0.1] to [0.4] and the interface, for holdsets.webs and holdsets.holds."""

import copy
import inspect
import unittest

from holdsets import holds, webs
from holdsets.errors import NoHold, NoPlace, NoWeb, WebError
from tests.helper import great_webs, nested, pairs_of, small_webs, subsets, whatever

WEB = (6, ((0, 1), (1, 2), (2, 3), (3, 0), (3, 4)))

INTERFACE = (
    (webs, "web_good", ["thing"]),
    (webs, "web_of", ["many", "things"]),
    (webs, "leads_to", ["web", "place"]),
    (webs, "led_from", ["web", "place"]),
    (webs, "ends_of", ["web"]),
    (webs, "turned_web", ["web"]),
    (webs, "among_web", ["web", "places"]),
    (webs, "ring_good", ["web", "thing"]),
    (webs, "order_good", ["web", "thing"]),
    (webs, "order_of", ["web"]),
    (webs, "groups_of", ["web"]),
    (webs, "comes_of", ["web", "place"]),
    (holds, "hold_good", ["web", "thing"]),
    (holds, "why_not", ["web", "places"]),
    (holds, "why_not_good", ["web", "places", "thing"]),
    (holds, "half_good", ["web", "thing"]),
    (holds, "halves_joined", ["web", "one", "other"]),
    (holds, "left_by", ["web", "half"]),
    (holds, "put_on", ["web", "half", "hold"]),
)

# Each question with one thing left open, for whatever is handed in there.
ASKED_OF_WHATEVER = (
    ("web_good", webs.web_good),
    ("web_of many", lambda thing: webs.web_of(thing, [])),
    ("web_of things", lambda thing: webs.web_of(2, [(0, 1), thing])),
    ("leads_to", lambda thing: webs.leads_to(WEB, thing)),
    ("led_from", lambda thing: webs.led_from(WEB, thing)),
    ("ring_good", lambda thing: webs.ring_good(WEB, thing)),
    ("order_good", lambda thing: webs.order_good(WEB, thing)),
    ("comes_of", lambda thing: webs.comes_of(WEB, thing)),
    ("hold_good", lambda thing: holds.hold_good(WEB, thing)),
    ("why_not", lambda thing: holds.why_not(WEB, thing)),
    ("why_not_good places", lambda thing: holds.why_not_good(WEB, thing, ("lost", 5))),
    ("why_not_good thing", lambda thing: holds.why_not_good(WEB, (0, 1), thing)),
    ("half_good", lambda thing: holds.half_good(WEB, thing)),
    ("halves_joined one", lambda thing: holds.halves_joined(WEB, thing, (4,))),
    ("halves_joined other", lambda thing: holds.halves_joined(WEB, (4,), thing)),
    ("left_by", lambda thing: holds.left_by(WEB, thing)),
    ("put_on half", lambda thing: holds.put_on(WEB, thing, (0,))),
    ("put_on hold", lambda thing: holds.put_on(WEB, (4,), thing)),
)

QUESTIONS = (
    (webs.web_good, (WEB,)),
    (webs.web_of, (3, [(2, 1), (0, 1)])),
    (webs.leads_to, (WEB, 3)),
    (webs.led_from, (WEB, 0)),
    (webs.ends_of, (WEB,)),
    (webs.turned_web, (WEB,)),
    (webs.among_web, (WEB, (0, 3, 4))),
    (webs.ring_good, (WEB, (0, 1, 2, 3))),
    (webs.order_good, ((2, ()), (1, 0))),
    (webs.order_of, (WEB,)),
    (webs.order_of, ((3, ((0, 1),)),)),
    (webs.groups_of, (WEB,)),
    (webs.comes_of, (WEB, 3)),
    (holds.hold_good, (WEB, (0, 2, 4, 5))),
    (holds.why_not, (WEB, (0, 1))),
    (holds.why_not, (WEB, (0, 2))),
    (holds.why_not_good, (WEB, (0, 2), ("lost", 5))),
    (holds.half_good, (WEB, (0, 2))),
    (holds.halves_joined, (WEB, (0, 2), (4,))),
    (holds.left_by, (WEB, (4,))),
    (holds.put_on, (WEB, (4,), (0, 2, 3))),
)


def answer_of(ask, *things):
    """Tell the answer, or the refusal, as a text in which 1 and True are unlike."""
    try:
        return repr(ask(*things))
    except WebError as refusal:
        return type(refusal).__name__ + repr(vars(refusal))


class InterfaceTest(unittest.TestCase):
    def test_names_and_arguments(self):
        for module, name, arguments in INTERFACE:
            with self.subTest(name=name):
                self.assertEqual(list(inspect.signature(getattr(module, name)).parameters), arguments)

    def test_what_lies_somewhat_beyond_is_not_refused(self):
        far = (45, tuple(pairs_of(45)[:230]))
        self.assertEqual(webs.leads_to(far, 0), list(range(1, 45)))
        self.assertEqual(webs.led_from(far, 44), [0, 1, 2, 3, 4])
        self.assertEqual(webs.ends_of(far)[-1], 44)
        self.assertEqual(webs.turned_web(webs.turned_web(far)), far)
        self.assertEqual(webs.among_web(far, tuple(range(45))), far)
        self.assertEqual(webs.order_of((45, ())), ("order", tuple(range(45))))
        self.assertEqual(len(webs.groups_of(far)), 40)
        self.assertEqual(len(webs.comes_of(far, 0)), 45)
        self.assertIs(holds.hold_good((45, ()), tuple(range(45))), True)
        self.assertEqual(holds.why_not(far, (44,)), ("lost", 5))


class ShownTest(unittest.TestCase):
    """[0.1]"""

    def test_each_answer_is_what_the_looker_asks_for(self):
        for web in small_webs() + great_webs():
            word, way = webs.order_of(web)
            self.assertIs((webs.order_good if word == "order" else webs.ring_good)(web, way), True)
            for places in subsets(range(min(web[0], 3))):
                told = holds.why_not(web, places)
                self.assertIs(holds.why_not_good(web, places, told), told is not None)
                self.assertIs(holds.hold_good(web, places), told is None)


class UnchangedTest(unittest.TestCase):
    """[0.2]"""

    def test_what_is_handed_in_is_not_changed(self):
        for name, ask in ASKED_OF_WHATEVER:
            for thing in whatever():
                with self.subTest(name=name, thing=thing):
                    ahead = repr(thing)
                    answer_of(ask, thing)
                    self.assertEqual(repr(thing), ahead)

    def test_a_list_handed_in_is_not_changed(self):
        for things in ([(1, 0), (0, 1)], [(1, 0), (1, 0)], [(1, 0), [0, 1]], [[0, {1: [2]}]], []):
            ahead = copy.deepcopy(things)
            answer_of(webs.web_of, 2, things)
            self.assertEqual(repr(things), repr(ahead))

    def test_changing_what_was_handed_in_changes_no_web(self):
        things = [(1, 0), (0, 1)]
        web = webs.web_of(2, things)
        things.append((5, 5))
        things[0] = None
        self.assertEqual(web, (2, ((0, 1), (1, 0))))
        self.assertEqual(webs.web_of(2, [(1, 0), (0, 1)]), web)

    def test_lists_that_are_told_are_the_asker_s_own(self):
        for ask, things in ((webs.leads_to, (WEB, 3)), (webs.led_from, (WEB, 0)), (webs.ends_of, (WEB,)),
                            (webs.groups_of, (WEB,))):
            with self.subTest(ask=ask.__name__):
                told = ask(*things)
                ahead = list(told)
                self.assertIsNot(ask(*things), told)
                told.append(99)
                told[0] = None
                self.assertEqual(ask(*things), ahead)
                told.clear()
                self.assertEqual(ask(*things), ahead)

    def test_the_same_question_has_the_same_answer(self):
        first = [answer_of(ask, *things) for ask, things in QUESTIONS]
        for turn in (QUESTIONS, QUESTIONS[::-1]):
            for ask, things in turn:
                answer_of(ask, *things)
            for name, ask in ASKED_OF_WHATEVER:
                answer_of(ask, [name])
                answer_of(ask, (0, 1))
            self.assertEqual([answer_of(ask, *things) for ask, things in QUESTIONS], first)

    def test_what_was_told_may_be_handed_in_again(self):
        for web in great_webs():
            told = webs.web_of(web[0], list(webs.turned_web(web)[1]))
            left = holds.left_by(told, ())
            self.assertEqual(webs.among_web(told, left), told)
            for group in webs.groups_of(told):
                self.assertIs(webs.web_good(webs.among_web(told, group)), True)
                self.assertIn(holds.hold_good(told, group), (True, False))


class WhateverTest(unittest.TestCase):
    """[0.3]"""

    def test_truths_are_no_whole_numbers(self):
        two = (2, ((0, 1), (1, 0)))
        for thing in (True, False):
            for ask in (webs.leads_to, webs.led_from, webs.comes_of):
                with self.assertRaises(NoPlace):
                    ask(two, thing)
            with self.assertRaises(NoWeb):
                webs.web_of(thing, [])
            with self.assertRaises(NoPlace):
                holds.why_not(two, (thing,))
            with self.assertRaises(NoHold):
                holds.left_by(two, (thing,))
            self.assertIs(holds.hold_good(two, (thing,)), False)
            self.assertIs(holds.half_good(two, (thing,)), False)
        self.assertIs(webs.ring_good(two, (False, True)), False)
        self.assertIs(webs.order_good((2, ()), (False, True)), False)

    def test_whatever_is_answered_or_refused_as_told(self):
        deep = [nested(wrap, 50) for wrap in (lambda x: [0, x], lambda x: (0, x), lambda x: {"a": x}, lambda x: ([x], 1))]
        signs = "".join(chr(sign) for sign in range(ord(" "), ord("~") + 1) if sign != ord("%"))
        for name, ask in ASKED_OF_WHATEVER:
            for thing in whatever() + deep + [10 ** 100 - 1, 1 - 10 ** 100, signs]:
                with self.subTest(name=name):
                    self.assertIsInstance(answer_of(ask, thing), str)

    def test_lookers_tell_truths_alone(self):
        for name, ask in ASKED_OF_WHATEVER:
            if "good" in name and "places" not in name:
                for thing in whatever():
                    with self.subTest(name=name, thing=thing):
                        self.assertIn(repr(ask(thing)), ("True", "False"))


class FirstRefusalTest(unittest.TestCase):
    """[0.4]"""

    def test_that_one_goes_which_is_told_first(self):
        with self.assertRaises(NoWeb) as caught:
            webs.web_of(0, [None] * 300)
        self.assertEqual(caught.exception.number, -1)
        with self.assertRaises(NoWeb) as caught:
            webs.web_of(3, [(0, 1), (1, 1), (0, 1)] + pairs_of(40)[:300])
        self.assertEqual(caught.exception.number, 1)

    def test_refusals_can_be_taken_as_value_errors(self):
        for ask, things in ((webs.web_of, (0, [])), (webs.leads_to, (WEB, 6)), (holds.left_by, (WEB, (0,))),
                            (holds.why_not, (WEB, [0]))):
            with self.assertRaises(ValueError):
                ask(*things)


if __name__ == "__main__":
    unittest.main()
