"""Drawings: the leads of a plan in rows of signs."""

from leadlight.errors import BadText
from leadlight.plans import bare, leads_of
from leadlight.points import ends, inner_leads

# By the turns from which leads are named.
SIGNS = ("-", "\\", "|", "/")

SHORTEST = 3
LONGEST = 19


def middle(name):
    """The place and the row at which a lead is drawn: halfway between its ends."""
    (x, y), (far_x, far_y) = ends(name)
    return (x + far_x, y + far_y)


def drawn_rows(plan):
    """The rows of a drawing, as lists of signs."""
    width, height = plan[0], plan[1]
    rows = [[" "] * (2 * width + 1) for row in range(2 * height + 1)]
    for x in range(width + 1):
        for y in range(height + 1):
            rows[2 * y][2 * x] = "."
    for name in leads_of(plan):
        place, at = middle(name)
        rows[at][place] = SIGNS[name[2]]
        for x, y in ends(name):
            rows[2 * y][2 * x] = "+"
    return rows


def drawing(plan):
    """The drawing of a plan."""
    return "\n".join(["".join(row) for row in drawn_rows(plan)])


def is_length(many):
    """Whether a drawing can have so many rows, or a row of it so many signs."""
    return many % 2 == 1 and SHORTEST <= many <= LONGEST


def check_rows(rows):
    if not is_length(len(rows)):
        raise BadText(len(rows))
    for at, row in enumerate(rows):
        if len(row) != len(rows[0]) or not is_length(len(row)):
            raise BadText(at)


def is_drawn(rows, name):
    """Whether a lead's sign stands where it would be drawn."""
    place, at = middle(name)
    return rows[at][place] == SIGNS[name[2]]


def read_drawing(text):
    """The plan without glass that a drawing shows."""
    rows = text.split("\n")
    check_rows(rows)
    width, height, within, glass = bare(len(rows[0]) // 2, len(rows) // 2)
    found = [name for name in inner_leads(width, height) if is_drawn(rows, name)]
    plan = (width, height, tuple(found), glass)
    for at, row in enumerate(drawn_rows(plan)):
        if rows[at] != "".join(row):
            raise BadText(at)
    return plan
