"""Codes: a plan with its glass in one row of signs."""

from leadlight.errors import BadText
from leadlight.panes import names, unlike_panes
from leadlight.plans import is_plan

SIDES = "123456789"
COLOURS = "0123456789"
FIGURES = "0123456789abcdef"


def point_figure(there, x, y):
    """The figure for the leads within that are named from a point."""
    return FIGURES[sum([1 << turn for turn in range(4) if (x, y, turn) in there])]


def code(plan):
    """The code of a plan."""
    width, height, within, glass = plan
    there = {name: True for name in within}
    rows = [
        "".join([point_figure(there, x, y) for x in range(width + 1)])
        for y in range(height + 1)
    ]
    figures = ".".join(rows)
    colours = "".join([str(colour) for colour in glass])
    return f"{width}x{height} {figures} {colours}"


def is_of(word, signs):
    """Whether a word has no other signs than these."""
    return all([sign in signs for sign in word])


def is_written(words):
    """Whether these are three words with a code's signs, whatever they tell."""
    if len(words) != 3:
        return False
    measure, rows, colours = words
    if len(measure) != 3 or not is_of(measure[0] + measure[2], SIDES):
        return False
    return is_of(rows, FIGURES + ".") and is_of(colours, COLOURS)


def read_leads(rows):
    """The leads that rows of figures for points tell, rising."""
    return sorted([
        (x, y, turn)
        for y, row in enumerate(rows)
        for x, sign in enumerate(row)
        for turn in range(4) if FIGURES.find(sign) >> turn & 1 == 1
    ])


def is_whole(plan):
    """Whether it is a plan, each of its panes with glass of one colour or none."""
    return is_plan(plan) and not unlike_panes(plan, names(plan))


def read_code(text):
    """The plan that a code tells."""
    words = text.split(" ")
    if not is_written(words):
        raise BadText(0)
    measure, rows, colours = words
    within = read_leads(rows.split("."))
    glass = [int(sign) for sign in colours]
    plan = (int(measure[0]), int(measure[2]), tuple(within), tuple(glass))
    # Rows too many, too few, too long or too short were read as well as they
    # could be; such a text isn't what the plan is written as.
    if not is_whole(plan) or code(plan) != text:
        raise BadText(0)
    return plan
