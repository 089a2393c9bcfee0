"""A desk that keeps a web, is told rows, and answers each with a text."""

from holdsets.counting import all_holds, always_in, holds_count, never_in
from holdsets.errors import NoRow, NoWeb
from holdsets.games import best_moves, lengths_of, outcomes
from holdsets.holds import refuse_no_places, why_not
from holdsets.marks import grown_web
from holdsets.numbers import numbers_of
from holdsets.rings import odd_ring, settled_marks
from holdsets.texts import row_read, web_shown
from holdsets.webs import among_web, ends_of, refuse_no_place, turned_web, web_of

# How many numbers stand behind each word, at least and at most; None where there may be ever so many.
NUMBERS_DUE = {
    "web": (1, 1), "arrow": (2, 2), "cut": (2, 2), "turn": (0, 0), "among": (1, None), "grow": (0, None),
    "back": (0, 0), "arrows": (0, 0), "ends": (0, 0), "look": (0, None), "holds": (0, 0), "first": (0, 0),
    "always": (0, 0), "never": (0, 0), "settled": (0, 0), "ring": (0, 0), "game": (1, 1), "moves": (1, 1),
    "numbers": (0, 0), "shown": (0, 0),
}


def asked_good(asked):
    """Tell whether the word is one of the desk's, with numbers alone behind it, as many as are due."""
    if asked[0] not in NUMBERS_DUE or None in asked[1]:
        return False
    due = NUMBERS_DUE[asked[0]]
    return due[0] <= len(asked[1]) and (due[1] is None or len(asked[1]) <= due[1])


def asked_by(row):
    """Tell the word of the row, whatever it is, and the tuple of its numbers; refused where it is no row."""
    if not isinstance(row, str):
        raise NoRow()
    asked = row_read(row)
    if not asked_good(asked):
        raise NoRow()
    return asked


def bare_web(web, numbers):
    """Tell the web of so many places without arrows."""
    return web_of(numbers[0], [])


def refuse_no_ends(web, numbers):
    """Refuse the two numbers where one of them is no place of the web."""
    refuse_no_place(web, numbers[0])
    refuse_no_place(web, numbers[1])


def web_with(web, numbers):
    """Tell the web with one arrow more."""
    refuse_no_ends(web, numbers)
    # The arrow stands behind all others in the list, so where it is refused it is with how many there are.
    return web_of(web[0], list(web[1]) + [numbers])


def web_without(web, numbers):
    """Tell the web with one arrow fewer."""
    refuse_no_ends(web, numbers)
    if numbers not in web[1]:
        raise NoWeb(len(web[1]))
    return (web[0], tuple([arrow for arrow in web[1] if arrow != numbers]))


def turned(web, numbers):
    """Tell the web in which each arrow leads the other way."""
    return turned_web(web)


def narrowed(web, numbers):
    """Tell the web of these places alone."""
    refuse_no_places(web, numbers)
    return among_web(web, numbers)


def grown(web, numbers):
    """Tell the web with one place more that leads to these places."""
    refuse_no_places(web, numbers)
    return grown_web(web, numbers)


def told(things):
    """Tell the numbers or words with a blank between each two, "none" where there are none."""
    if len(things) == 0:
        return "none"
    return " ".join([str(thing) for thing in things])


def arrows_told(web, numbers):
    """Tell the arrows."""
    return told([f"{a}-{b}" for a, b in web[1]])


def ends_told(web, numbers):
    """Tell the places that lead nowhere."""
    return told(ends_of(web))


def look_told(web, numbers):
    """Tell whether the places are a hold, or why not."""
    fault = why_not(web, numbers)
    if fault is None:
        return "hold"
    return told(fault)


def holds_told(web, numbers):
    """Tell how many holds there are."""
    return str(holds_count(web))


def first_told(web, numbers):
    """Tell the first hold."""
    holds = all_holds(web)
    if holds == []:
        return "none"
    return told(holds[0])


def always_told(web, numbers):
    """Tell the places that each hold has."""
    return told(always_in(web))


def never_told(web, numbers):
    """Tell the places that no hold has."""
    return told(never_in(web))


def settled_word(mark):
    """Tell the word for how a place is settled."""
    if mark is None:
        return "-"
    return "in" if mark else "out"


def settled_told(web, numbers):
    """Tell how each place is settled."""
    return told([settled_word(mark) for mark in settled_marks(web)])


def ring_told(web, numbers):
    """Tell whether there is an odd ring."""
    return "none" if odd_ring(web) is None else "odd"


def game_told(web, numbers):
    """Tell the outcome of the place, and its length where it has one."""
    place = numbers[0]
    refuse_no_place(web, place)
    length = lengths_of(web)[place]
    outcome = outcomes(web)[place]
    return outcome if length is None else f"{outcome} {length}"


def moves_told(web, numbers):
    """Tell the best moves of the place."""
    return told(best_moves(web, numbers[0]))


def numbers_told(web, numbers):
    """Tell the numbers of the places."""
    return told(numbers_of(web))


def shown_told(web, numbers):
    """Tell the text of the web in one row."""
    return web_shown(web).replace("\n", " ; ")


# What each deed makes of the web and the numbers of its row; "back" alone makes no new web.
DEEDS = {
    "web": bare_web, "arrow": web_with, "cut": web_without, "turn": turned, "among": narrowed, "grow": grown,
}

ANSWERS = {
    "arrows": arrows_told, "ends": ends_told, "look": look_told, "holds": holds_told, "first": first_told,
    "always": always_told, "never": never_told, "settled": settled_told, "ring": ring_told, "game": game_told,
    "moves": moves_told, "numbers": numbers_told, "shown": shown_told,
}


class Desk:
    def __init__(self):
        # The web at first, then the one behind each deed that stands.
        self.kept = [(1, ())]

    def say(self, row):
        """Tell the answer to the row, whatever it is, or refuse it."""
        asked = asked_by(row)
        word = asked[0]
        if word in ANSWERS:
            return ANSWERS[word](self.kept[-1], asked[1])
        if word == "back":
            self.take_back()
        else:
            self.kept.append(DEEDS[word](self.kept[-1], asked[1]))
        return "ok"

    def take_back(self):
        """Undo the last deed that stands."""
        if len(self.kept) == 1:
            raise NoRow()
        self.kept.pop()
