"""[10.1]: webs written as texts, and read from them."""

import re
import unittest

from holdsets.errors import NoText
from holdsets.texts import web_read, web_shown
from holdsets.webs import web_good
from tests.helper import drawn_webs, great_webs, pairs_of, small_webs, whatever

NUMBER = "(0|[1-9][0-9]{0,59})"
FULL = (40, tuple(pairs_of(40)[:200]))


def text_of(many, arrows):
    return "\n".join(["web " + str(many)] + ["arrow " + str(a) + " " + str(b) for a, b in arrows])


def row_of_fault(text):
    """Tell the first row that is not as the document says, None where all are, by patterns."""
    found = re.fullmatch("web " + NUMBER, text.split("\n")[0])
    if not found or not 1 <= int(found.group(1)) <= 40:
        return 1
    many = int(found.group(1))
    last = (-1, -1)
    for number, row in enumerate(text.split("\n")[1:]):
        found = re.fullmatch("arrow " + NUMBER + " " + NUMBER, row)
        if not found:
            return number + 2
        arrow = (int(found.group(1)), int(found.group(2)))
        if max(arrow) >= many or arrow[0] == arrow[1] or arrow <= last or number >= 200:
            return number + 2
        last = arrow
    return None


class TextTestCase(unittest.TestCase):
    def refused(self, row, thing):
        with self.subTest(thing=thing):
            with self.assertRaises(NoText) as caught:
                web_read(thing)
            self.assertIs(type(caught.exception), NoText)
            self.assertEqual(vars(caught.exception), {"row": row})


class ShownTest(TextTestCase):
    def test_by_hand(self):
        self.assertEqual(web_shown((1, ())), "web 1")
        self.assertEqual(web_shown((40, ())), "web 40")
        self.assertEqual(web_shown((3, ((0, 1), (2, 0)))), "web 3\narrow 0 1\narrow 2 0")
        self.assertEqual(web_shown((40, ((9, 39), (10, 0)))), "web 40\narrow 9 39\narrow 10 0")

    def test_rows(self):
        for web in great_webs() + [FULL]:
            rows = web_shown(web).split("\n")
            self.assertEqual(rows[0], "web " + str(web[0]))
            self.assertEqual(rows[1:], ["arrow " + str(a) + " " + str(b) for a, b in web[1]])

    def test_there_and_back(self):
        for web in small_webs() + drawn_webs() + great_webs() + [FULL]:
            text = web_shown(web)
            self.assertIsInstance(text, str)
            self.assertIsNone(row_of_fault(text))
            self.assertEqual(repr(web_read(text)), repr(web))
            self.assertEqual(web_shown(web_read(text)), text)
            self.assertIs(web_good(web_read(text)), True)


class ReadTest(TextTestCase):
    def test_by_hand(self):
        self.assertEqual(web_read("web 1"), (1, ()))
        self.assertEqual(web_read("web 40"), (40, ()))
        self.assertEqual(web_read("web 2\narrow 0 1\narrow 1 0"), (2, ((0, 1), (1, 0))))
        self.assertEqual(web_read("web 11\narrow 2 10\narrow 10 2"), (11, ((2, 10), (10, 2))))

    def test_what_is_no_text(self):
        for thing in (None, True, False, 0, 1, [], (), {}, ["web 1"], ("web 1",), {"web 1": "web 1"}, [["web", 1]], (1, ())):
            self.refused(0, thing)
        for thing in whatever():
            if not isinstance(thing, str):
                self.refused(0, thing)

    def test_texts_that_write_no_web_at_all(self):
        for thing in whatever():
            if isinstance(thing, str):
                self.refused(1, thing)
        signs = "".join(chr(sign) for sign in range(ord(" "), ord("~") + 1) if sign != ord("%"))
        self.refused(1, signs)
        self.refused(1, "web 1" + signs)

    def test_the_first_row(self):
        for row in (
            "", " ", "web", "web ", "web  1", " web 1", "web 1 ", "web 1 1", "web 1 2", "web one", "web -1", "web +1", "web 0",
            "web 41", "web 01", "web 00", "web 040", "web 1.0", "web 1_0", "web 0x1", "web 1e1", "web a", "web 1a", "web (1)",
            "webs 1", "Web 1", "WEB 1", "we 1", "1", "1 web", "web1", "web,1", "web\t1", "web 1\t", "web 1\r",
            "arrow 0 1", "arrow",
            "web 999", "web " + "9" * 60, "web " + "9" * 61, "web " + "0" * 59 + "1", "web " + "1" * 5000, "web x", "web '1'",
        ):
            self.refused(1, row)
            self.refused(1, row + "\narrow 0 1")
            self.refused(1, row + "\n")
        self.refused(1, "\nweb 1")
        self.refused(1, "\n")
        self.refused(1, "\n\n")

    def test_figures_of_other_scripts_are_none(self):
        for sign in ("\u0661", "\u00b2", "\uff11", "\u2460"):
            self.refused(1, "web " + sign)
            self.refused(2, "web 3\narrow 0 " + sign)

    def test_a_row_behind(self):
        for row in (
            "", " ", "arrow", "arrow ", "arrow 0", "arrow 0 ", "arrow 0 1 ", " arrow 0 1", "arrow  0 1", "arrow 0  1",
            "arrow 0 1 2",
            "arrow 0 1 0 1", "arrow 00 1", "arrow 0 01", "arrow 0 -1", "arrow -1 0", "arrow +0 1", "arrow 0 +1", "arrow 0 1.0",
            "arrow 0 a", "arrow a b", "arrow 0,1", "arrow 0-1", "arrow (0, 1)", "arrow 0 0", "arrow 2 2", "arrow 0 3",
            "arrow 3 0",
            "arrow 3 4", "arrow 0 40", "arrow 0 " + "1" * 60, "arrow 0 " + "1" * 61, "arrow " + "0" * 61 + " 1",
            "arrow 0 " + "1" * 9999,
            "arrows 0 1", "Arrow 0 1", "arro 0 1", "cut 0 1", "web 3", "web 1", "0 1", "0 1 arrow", "arrow 0\t1", "arrow 0 1\r",
            "arrow 0 1\t", "arrow\t0 1", "arrow '0' '1'", "arrow True False", "arrow None 0", "arrow x 1",
        ):
            self.refused(2, "web 3\n" + row)
            self.refused(2, "web 3\n" + row + "\narrow 1 2")
            self.refused(3, "web 3\narrow 0 1\n" + row)
            self.refused(5, "web 3\narrow 0 1\narrow 0 2\narrow 1 0\n" + row + "\narrow 2 0")

    def test_each_is_greater_than_the_one_ahead(self):
        self.refused(3, "web 3\narrow 0 1\narrow 0 1")
        self.refused(3, "web 3\narrow 0 2\narrow 0 1")
        self.refused(3, "web 3\narrow 1 0\narrow 0 1")
        self.refused(3, "web 3\narrow 1 2\narrow 0 2\narrow 2 0")
        self.refused(4, "web 3\narrow 0 1\narrow 2 0\narrow 1 2")
        self.refused(4, "web 12\narrow 2 3\narrow 10 3\narrow 9 3")

    def test_the_first_of_several_rows(self):
        self.refused(1, "web 41\narrow 0 0\nno")
        self.refused(2, "web 40\narrow 0 0\nno")
        self.refused(3, "web 40\narrow 0 1\nno\narrow 0 0")

    def test_an_empty_row(self):
        self.refused(2, "web 1\n")
        self.refused(2, "web 1\n\n")
        self.refused(3, "web 3\narrow 0 1\n")
        self.refused(3, "web 3\narrow 0 1\n\narrow 0 2")
        self.refused(202, web_shown(FULL) + "\n")
        self.refused(1, "web 1\r\n")

    def test_the_two_hundred_and_first(self):
        pairs = pairs_of(40)
        self.assertEqual(web_read(text_of(40, pairs[:200])), FULL)
        self.refused(202, text_of(40, pairs[:201]))
        self.refused(202, text_of(40, pairs[:300]))
        self.refused(201, text_of(40, pairs[:199] + [(0, 1)] + pairs[200:300]))
        self.refused(202, text_of(40, pairs[:200] + [(0, 1)]))

    def test_beyond_the_places(self):
        for many in range(1, 41):
            self.refused(2, text_of(many, [(0, many)]))
            self.refused(2, text_of(many, [(many, 0)]))
            if many > 1:
                self.assertEqual(web_read(text_of(many, [(0, many - 1)])), (many, ((0, many - 1),)))

    def test_texts_with_one_sign_changed(self):
        text = web_shown((12, ((0, 11), (1, 2), (10, 1), (11, 10))))
        for place in range(len(text) + 1):
            for sign in ("", " ", "\n", "0", "1", "9", "a", "w", "-", "  "):
                for changed in (text[:place] + sign + text[place:], text[:place] + sign + text[place + 1:]):
                    row = row_of_fault(changed)
                    if row is None:
                        self.assertEqual(web_shown(web_read(changed)), changed)
                    else:
                        self.refused(row, changed)


if __name__ == "__main__":
    unittest.main()
