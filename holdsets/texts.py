"""Webs written as texts, and read from them."""

from holdsets.errors import NoText
from holdsets.webs import MOST_ARROWS, many_good, pair_good, rises

MOST_FIGURES = 60
FIGURES = "0123456789"


def number_read(word):
    """Tell the number that the word writes, None where it writes none."""
    if not 1 <= len(word) <= MOST_FIGURES or not all([sign in FIGURES for sign in word]):
        return None
    # A nought stands ahead in 0 alone.
    if word[0] == "0" and word != "0":
        return None
    return int(word)


def row_read(row):
    """Tell the first word of the row and the tuple of the numbers behind it, None for each word that writes none."""
    words = row.split(" ")
    return (words[0], tuple([number_read(word) for word in words[1:]]))


def web_shown(web):
    """Tell the text that writes the web."""
    many = web[0]
    return "\n".join([f"web {many}"] + [f"arrow {a} {b}" for a, b in web[1]])


def many_told(row):
    """Tell how many places the row tells, None where it tells no number of places."""
    found = row_read(row)
    if found[0] != "web" or len(found[1]) != 1 or not many_good(found[1][0]):
        return None
    return found[1][0]


def arrow_told(many, row):
    """Tell the arrow of a web of so many places that the row tells, None where it tells none."""
    found = row_read(row)
    if found[0] != "arrow" or not pair_good((many, ()), found[1]):
        return None
    return found[1]


def web_read(text):
    """Tell the web that the text, whatever it is, writes."""
    if not isinstance(text, str):
        raise NoText(0)
    rows = text.split("\n")
    many = many_told(rows[0])
    if many is None:
        raise NoText(1)
    arrows = []
    for number, row in enumerate(rows[1:], start=2):
        arrow = arrow_told(many, row)
        if arrow is None or not rises(arrows[-1:] + [arrow]) or len(arrows) == MOST_ARROWS:
            raise NoText(number)
        arrows.append(arrow)
    return (many, tuple(arrows))
