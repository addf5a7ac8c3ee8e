"""Pieces: points that hang together by leads."""

from leadlight.panes import names
from leadlight.plans import leads_of, lying, quarter_at
from leadlight.points import check_point, ends, lead


def degree(plan, x, y):
    """How many leads meet at a point."""
    check_point(plan[0], plan[1], x, y)
    there = lying(plan)
    return len([turn for turn in range(8) if lead(x, y, turn) in there])


def ties(plan):
    """For each point with a lead, rising, the points that its leads go to."""
    found = {}
    for name in leads_of(plan):
        one, other = ends(name)
        found.setdefault(one, []).append(other)
        found.setdefault(other, []).append(one)
    return {point: found[point] for point in sorted(found)}


def points_of(plan):
    """All points with a lead, rising."""
    return list(ties(plan))


def piece_from(tied, point):
    """All points that hang together with one, rising."""
    seen = {point: True}
    waiting = [point]
    while waiting:
        here = waiting.pop()
        for near in tied[here]:
            if near not in seen:
                seen[near] = True
                waiting.append(near)
    return sorted(seen)


def pieces(plan):
    """The points of each piece, rising: first the frame's, then the free ones."""
    tied = ties(plan)
    seen = set()
    rows = []
    # Taken rising, the frame's piece comes first: (0, 0) is a point of it.
    for point in tied:
        if point not in seen:
            row = piece_from(tied, point)
            for one in row:
                seen.add(one)
            rows.append(row)
    return rows


def free_pieces(plan):
    """For each free piece its least point and the pane that it stands in, rising."""
    found = names(plan)
    told = []
    for row in pieces(plan)[1:]:
        x, y = row[0]
        # No lead goes to the left from the least point, so that the glass
        # there is of the pane all round the piece.
        told.append(((x, y), found[quarter_at(plan, x - 1, y, 0)]))
    return told


def odd_points(plan):
    """The points with an odd number of leads, rising."""
    tied = ties(plan)
    return [point for point in tied if len(tied[point]) % 2 == 1]
