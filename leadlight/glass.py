"""Leads laid and pulled out, glass set and broken: plans made of plans."""

from leadlight.errors import BadColour, BadMany, Crossing, Framed, Glazed, NoGlass, NoLead, Off, Taken
from leadlight.panes import names, unlike_panes
from leadlight.plans import lying, place_of
from leadlight.points import check_point, check_turn, is_frame, lead, over, stays, step

LONGEST = 9


def check_many(many):
    if not 1 <= many <= LONGEST:
        raise BadMany("a stretch is 1 to 9 leads long")


def check_colour(colour):
    if not 1 <= colour <= 9:
        raise BadColour("a colour is 1 to 9")


def stretch(plan, x, y, turn, many=1):
    """The names of so many leads in a row from a point by a turn, in order."""
    width, height = plan[0], plan[1]
    check_point(width, height, x, y)
    check_turn(turn)
    check_many(many)
    row = []
    for at in range(many):
        here_x, here_y = step(x, y, turn, at)
        if not stays(width, height, here_x, here_y, turn):
            raise Off(at)
        row.append(lead(here_x, here_y, turn))
    return row


def check_laid(plan, some):
    there = lying(plan)
    for at, name in enumerate(some):
        if name in there:
            raise Taken(at)
        if over(name) in there:
            raise Crossing(at)


def laid(plan, some):
    """A plan with these leads more, whose glass is cut by them."""
    check_laid(plan, some)
    width, height, within, glass = plan
    return (width, height, tuple(sorted([*within, *some])), glass)


def check_pulled(plan, some):
    there = lying(plan)
    for at, name in enumerate(some):
        if is_frame(plan[0], plan[1], name):
            raise Framed(at)
        if name not in there:
            raise NoLead(at)


def lost_in(glass, found, unlike):
    """What glass of each colour was in these panes; found is what names tells."""
    many = {}
    for colour, pane in zip(glass, found):
        if colour != 0 and pane in unlike:
            many[colour] = many.get(colour, 0) + 1
    return sorted(many.items())


def pulled(plan, some):
    """A plan without these leads, and the pairs (colour, quarters) lost by it."""
    check_pulled(plan, some)
    width, height, within, glass = plan
    left = tuple([name for name in within if name not in some])
    joined = (width, height, left, glass)
    found = names(joined)
    unlike = unlike_panes(joined, found)
    kept = tuple([0 if pane in unlike else colour for colour, pane in zip(glass, found)])
    return ((width, height, left, kept), lost_in(glass, found, unlike))


def coloured(plan, quarter, colour):
    """A plan with this colour, or 0 for none, in all quarters of a quarter's pane."""
    width, height, within, glass = plan
    found = names(plan)
    kept = [colour if pane == found[quarter] else old for old, pane in zip(glass, found)]
    return (width, height, within, tuple(kept))


def glazed(plan, quarter, colour=1):
    """A plan with glass set in the pane of a quarter."""
    # Only looks whether there is such a quarter.
    place_of(plan, quarter)
    check_colour(colour)
    if plan[3][quarter] != 0:
        raise Glazed("the pane has glass already")
    return coloured(plan, quarter, colour)


def shattered(plan, quarter):
    """A plan with the glass broken in the pane of a quarter."""
    place_of(plan, quarter)
    if plan[3][quarter] == 0:
        raise NoGlass("the pane has no glass")
    return coloured(plan, quarter, 0)


def used(plan, colour):
    """How many quarters have a colour."""
    check_colour(colour)
    return plan[3].count(colour)
