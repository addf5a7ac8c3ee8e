"""Plans: (width, height, leads within, colour of each quarter)."""

from leadlight.errors import BadQuarter
from leadlight.points import check_size, frame, inner_leads, is_size, over


def count_quarters(width, height):
    return 4 * width * height


def bare(width, height):
    """The plan of the frame alone, without glass."""
    check_size(width, height)
    return (width, height, (), (0,) * count_quarters(width, height))


def place_of(plan, quarter):
    """The cell of a quarter and its part there: (x, y, part)."""
    width, height = plan[0], plan[1]
    if not 0 <= quarter < count_quarters(width, height):
        raise BadQuarter("the board has no such quarter")
    cell = quarter // 4
    return (cell % width, cell // width, quarter % 4)


def quarter_at(plan, x, y, part):
    """The number of a quarter of the cell (x, y)."""
    return 4 * (y * plan[0] + x) + part


def leads_of(plan):
    """All leads that lie there, the frame's too, rising."""
    return sorted(list(plan[2]) + frame(plan[0], plan[1]))


def lying(plan):
    """All leads that lie there, the frame's too, to look names up in."""
    return {name: True for name in leads_of(plan)}


def free_leads(plan):
    """The leads each of which could be laid, rising."""
    there = set(plan[2])
    free = []
    for name in inner_leads(plan[0], plan[1]):
        if name not in there and over(name) not in there:
            free.append(name)
    return free


def is_rising(rows):
    """Whether each is above the one ahead of it, so that none stands twice."""
    return all([one < other for one, other in zip(rows, rows[1:])])


def can_lie(width, height, within):
    """Whether all these are leads within the board, none over another one."""
    inner = set(inner_leads(width, height))
    there = set(within)
    for name in within:
        if name not in inner or over(name) in there:
            return False
    return True


def is_plan(plan):
    """Whether size, leads and number of quarters are a plan's; colours aren't looked at."""
    width, height, within, glass = plan
    if not is_size(width, height) or len(glass) != count_quarters(width, height):
        return False
    return is_rising(within) and can_lie(width, height, within)
