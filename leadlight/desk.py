"""Desks: windows by their numbers, and lines that ask and answer."""

from leadlight.code import code
from leadlight.deeds import are_numbers, deed_text, done, is_number, read_deed
from leadlight.errors import (
    BadColour, BadMany, BadPoint, BadQuarter, BadSize, BadText, BadTurn, Crossing, Framed, Full,
    Glazed, NoGlass, NoLead, NothingLeft, NoWindow, Off, Taken,
)
from leadlight.hues import hues, odd_inner
from leadlight.panes import pane_of, panes, size
from leadlight.pieces import pieces
from leadlight.strips import fewest
from leadlight.ways import way
from leadlight.window import Window

MOST_WINDOWS = 6

NO_LINE = "no line"


def held(desk, number):
    """The window of a number, not a twin of it."""
    if not 1 <= number <= len(desk.windows):
        raise NoWindow("the desk has no such window")
    return desk.windows[number - 1]


def held_plan(desk, number):
    return held(desk, number).plan()


def put(desk, window):
    """Takes in one more window and tells its number."""
    if len(desk.windows) >= MOST_WINDOWS:
        raise Full("a desk has up to 6 windows")
    desk.windows.append(window)
    return str(len(desk.windows))


def pairs_text(pairs):
    return ", ".join([f"{one} {other}" for one, other in pairs])


def say_open(desk, numbers):
    return put(desk, Window(numbers[0], numbers[1]))


def say_copy(desk, numbers):
    return put(desk, held(desk, numbers[0]).twin())


def say_undo(desk, numbers):
    return deed_text(held(desk, numbers[0]).undo())


def say_redo(desk, numbers):
    return deed_text(held(desk, numbers[0]).redo())


def say_code(desk, numbers):
    return code(held_plan(desk, numbers[0]))


def say_leads(desk, numbers):
    return str(len(held_plan(desk, numbers[0])[2]))


def say_panes(desk, numbers):
    return str(len(panes(held_plan(desk, numbers[0]))))


def say_pieces(desk, numbers):
    return str(len(pieces(held_plan(desk, numbers[0]))))


def say_strips(desk, numbers):
    return str(fewest(held_plan(desk, numbers[0])))


def say_hues(desk, numbers):
    plan = held_plan(desk, numbers[0])
    odd = odd_inner(plan)
    if odd:
        return f"odd {pairs_text(odd)}"
    return pairs_text(hues(plan))


def say_size(desk, numbers):
    plan = held_plan(desk, numbers[0])
    return str(size(plan, pane_of(plan, numbers[1])))


def say_lost(desk, numbers):
    return str(held(desk, numbers[0]).lost(numbers[1]))


def say_way(desk, numbers):
    plan = held_plan(desk, numbers[0])
    return str(len(way(plan, pane_of(plan, numbers[1]), pane_of(plan, numbers[2]))))


# By the first words of lines: how many numbers come behind them.
COUNTS = {
    "open": 2, "copy": 1, "undo": 1, "redo": 1,
    "code": 1, "leads": 1, "panes": 1, "pieces": 1, "strips": 1, "hues": 1,
    "size": 2, "lost": 2, "way": 3,
}

# By the first words of lines: what answers them.
ANSWERS = {
    "open": say_open, "copy": say_copy, "undo": say_undo, "redo": say_redo,
    "code": say_code, "leads": say_leads, "panes": say_panes, "pieces": say_pieces,
    "strips": say_strips, "hues": say_hues,
    "size": say_size, "lost": say_lost, "way": say_way,
}


def say_deed(desk, number, line):
    """Does the deed of a line in a window."""
    try:
        deed = read_deed(line)
    except BadText:
        return NO_LINE
    told = done(held(desk, number), deed)
    if isinstance(told, tuple):
        return f"{told[0]} {told[1]}"
    return str(told)


def answer(desk, line):
    """What a line tells, where nothing is refused."""
    word, *rest = line.split(" ")
    if is_number(word):
        return say_deed(desk, int(word), " ".join(rest))
    if word not in COUNTS or not are_numbers(rest, COUNTS[word]):
        return NO_LINE
    action = ANSWERS[word]
    return action(desk, [int(one) for one in rest])


def answer_at(desk, line):
    """What a line tells, where nothing is refused or it is refused at a step."""
    try:
        return answer(desk, line)
    except Off as off:
        return f"refused off {off.at}"
    except Taken as taken:
        return f"refused taken {taken.at}"
    except Crossing as crossing:
        return f"refused crossing {crossing.at}"
    except Framed as framed:
        return f"refused framed {framed.at}"
    except NoLead as missing:
        return f"refused nolead {missing.at}"


class Desk:
    """Up to six windows, numbered from 1."""

    def __init__(self):
        self.windows = []

    def __len__(self):
        return len(self.windows)

    def window(self, number=1):
        """A twin of a window."""
        return held(self, number).twin()

    def say(self, line):
        """The answer to a line."""
        try:
            return answer_at(self, line)
        except BadSize:
            return "refused badsize"
        except BadPoint:
            return "refused badpoint"
        except BadTurn:
            return "refused badturn"
        except BadMany:
            return "refused badmany"
        except BadQuarter:
            return "refused badquarter"
        except BadColour:
            return "refused badcolour"
        except Glazed:
            return "refused glazed"
        except Full:
            return "refused full"
        except NoGlass:
            return "refused noglass"
        except NoWindow:
            return "refused nowindow"
        except NothingLeft:
            return "refused nothingleft"
