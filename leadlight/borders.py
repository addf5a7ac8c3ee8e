"""Borders: what lies beside leads, and the closed walks round panes."""

from leadlight.errors import NoLead
from leadlight.panes import check_pane, names
from leadlight.plans import lying, quarter_at
from leadlight.points import back, check_point, check_turn, ends, lead, step

# What stands for a pane outside of the frame.
OUTSIDE = -1

# By turns: where the cell to the left is, seen from the point one goes from,
# and a part of it that touches the lead from there.
LEFT_PARTS = (
    (0, -1, 2),
    (0, 0, 0),
    (0, 0, 3),
    (-1, 0, 1),
    (-1, 0, 0),
    (-1, -1, 2),
    (-1, -1, 1),
    (0, -1, 0),
)


def check_side(plan, there, x, y, turn):
    check_point(plan[0], plan[1], x, y)
    check_turn(turn)
    if lead(x, y, turn) not in there:
        raise NoLead(0)


def left_of(plan, found, side):
    """The pane to the left of a side; found is what names tells."""
    x, y, turn = side
    right, down, part = LEFT_PARTS[turn]
    cell_x, cell_y = x + right, y + down
    if not (0 <= cell_x < plan[0] and 0 <= cell_y < plan[1]):
        return OUTSIDE
    return found[quarter_at(plan, cell_x, cell_y, part)]


def both_ways(name):
    """The two sides that go along a lead, first that from where it is named."""
    here, there = ends(name)
    return ((here[0], here[1], name[2]), (there[0], there[1], back(name[2])))


def sides_of(plan, found, name):
    """The panes left and right of a lead; found is what names tells."""
    forth, home = both_ways(name)
    return (left_of(plan, found, forth), left_of(plan, found, home))


def left(plan, x, y, turn):
    """The pane to the left of the lead from a point by a turn."""
    check_side(plan, lying(plan), x, y, turn)
    return left_of(plan, names(plan), (x, y, turn))


def sides(plan, name):
    """The panes left and right of a lead, going from where it is named."""
    x, y, turn = name
    check_side(plan, lying(plan), x, y, turn)
    return sides_of(plan, names(plan), name)


def side_behind(there, side):
    """The side that comes behind another one, with the same pane to the left."""
    x, y = step(side[0], side[1], side[2])
    turn = (side[2] + 5) % 8
    # This ends at the latest with the lead that one came along.
    while lead(x, y, turn) not in there:
        turn = (turn + 1) % 8
    return (x, y, turn)


def walk_from(there, side):
    row = [side]
    behind = side_behind(there, side)
    while behind != side:
        row.append(behind)
        behind = side_behind(there, behind)
    return row


def walk(plan, x, y, turn):
    """The closed walk that begins with the lead from a point by a turn."""
    there = lying(plan)
    check_side(plan, there, x, y, turn)
    return walk_from(there, (x, y, turn))


def turning(row):
    """Twice the measure of what a closed walk goes round."""
    behind = row[1:] + row[:1]
    return sum([one[0] * other[1] - one[1] * other[0] for one, other in zip(row, behind)])


def all_sides(there):
    """All leads that lie there, both ways, rising."""
    return sorted([side for name in there for side in both_ways(name)])


def borders(plan, pane):
    """The closed walks with a pane to the left, first the outer one."""
    found = names(plan)
    check_pane(found, pane)
    there = lying(plan)
    gone = set()
    rows = []
    # Taken rising, a walk's first side is its least one. The outer walk comes
    # first by this, too: it goes round the others, and so reaches further left.
    for side in all_sides(there):
        if side not in gone and left_of(plan, found, side) == pane:
            row = walk_from(there, side)
            for one in row:
                gone.add(one)
            rows.append(row)
    return rows
