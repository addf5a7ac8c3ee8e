"""Panes: quarters that hang together, named by the least of them."""

from leadlight.errors import NoPane
from leadlight.plans import count_quarters, lying, place_of, quarter_at
from leadlight.points import step

# By parts of a cell: the lead on the side that the part is at, seen from the cell.
SIDE_LEADS = ((0, 0, 0), (1, 0, 2), (0, 1, 0), (0, 0, 2))

# By parts of a cell: the turn that leads to the cell beyond that side.
SIDE_TURNS = (6, 0, 2, 4)

# What stands for a quarter whose pane isn't known yet.
UNKNOWN = -1


def side_lead(x, y, part):
    """The lead that would part a quarter from the one beyond its cell's side."""
    right, down, turn = SIDE_LEADS[part]
    return (x + right, y + down, turn)


def slant_behind(x, y, part):
    """The slant that would part a quarter from its cell's next one."""
    if part == 0 or part == 2:
        return (x + 1, y, 3)
    return (x, y, 1)


def tied_to(plan, there, quarter):
    """The quarters next to this one that hang together with it."""
    x, y, part = place_of(plan, quarter)
    after, before, across = (part + 1) % 4, (part + 3) % 4, (part + 2) % 4
    found = []
    if slant_behind(x, y, part) not in there:
        found.append(quarter_at(plan, x, y, after))
    if slant_behind(x, y, before) not in there:
        found.append(quarter_at(plan, x, y, before))
    if side_lead(x, y, part) not in there:
        far_x, far_y = step(x, y, SIDE_TURNS[part])
        found.append(quarter_at(plan, far_x, far_y, across))
    return found


def fill(plan, there, found, pane):
    """Names all quarters of a pane, begun at its least one."""
    found[pane] = pane
    waiting = [pane]
    while waiting:
        quarter = waiting.pop()
        for near in tied_to(plan, there, quarter):
            if found[near] == UNKNOWN:
                found[near] = pane
                waiting.append(near)


def names(plan):
    """For each quarter its pane."""
    there = lying(plan)
    many = count_quarters(plan[0], plan[1])
    found = [UNKNOWN] * many
    for quarter in range(many):
        if found[quarter] == UNKNOWN:
            fill(plan, there, found, quarter)
    return found


def check_pane(found, pane):
    """Refuses a number that is none of the panes found."""
    if pane not in found:
        raise NoPane("no pane is named so")


def pane_of(plan, quarter):
    """The pane of a quarter."""
    # A number below nought would be taken from the list's end.
    place_of(plan, quarter)
    return names(plan)[quarter]


def panes(plan):
    """The names of all panes, rising."""
    return sorted(set(names(plan)))


def quarters(plan, pane):
    """The quarters of a pane, rising."""
    found = names(plan)
    check_pane(found, pane)
    return [quarter for quarter, name in enumerate(found) if name == pane]


def size(plan, pane):
    """How many quarters a pane has."""
    return len(quarters(plan, pane))


def unlike_panes(plan, found):
    """The panes whose quarters have not all the same colour; found is what names tells."""
    glass = plan[3]
    return sorted({pane for quarter, pane in enumerate(found) if glass[quarter] != glass[pane]})
