"""Neighbours of panes, and two hues for all of them."""

from leadlight.borders import sides_of
from leadlight.panes import names
from leadlight.pieces import odd_points


def is_inner(plan, point):
    """Whether a point isn't on the frame."""
    x, y = point
    return 0 < x < plan[0] and 0 < y < plan[1]


def odd_inner(plan):
    """The inner points with an odd number of leads, rising."""
    return [point for point in odd_points(plan) if is_inner(plan, point)]


def neighbours(plan):
    """For each pane, rising, its pairs (pane beyond, lead between), by leads."""
    found = names(plan)
    near = {pane: [] for pane in sorted(set(found))}
    for name in plan[2]:
        one, other = sides_of(plan, found, name)
        if one != other:
            near[one].append((other, name))
            near[other].append((one, name))
    return near


def distances(near, start):
    """For each pane how many leads it is away from one; near is what neighbours tells."""
    away = {start: 0}
    waiting = [start]
    at = 0
    # Panes wait by how far they are, so that each is reached first by a shortest way.
    while at < len(waiting):
        here = waiting[at]
        for beyond, name in near[here]:
            if beyond not in away:
                away[beyond] = away[here] + 1
                waiting.append(beyond)
        at += 1
    return away


def hues(plan):
    """For each pane, rising, the pair of it and its hue, or None where two don't do."""
    if odd_inner(plan):
        return None
    away = distances(neighbours(plan), 0)
    return [(pane, away[pane] % 2) for pane in sorted(away)]
