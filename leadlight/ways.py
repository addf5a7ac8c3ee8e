"""Ways from pane to pane, and the walls that every way crosses."""

from leadlight.hues import distances, neighbours
from leadlight.panes import check_pane


def far(plan, pane):
    """For each pane, rising, the pair of it and how many leads it is away from one."""
    near = neighbours(plan)
    check_pane(near, pane)
    away = distances(near, pane)
    return [(beyond, away[beyond]) for beyond in sorted(away)]


def near_both(plan, one, other):
    """What neighbours tells, where both numbers name panes."""
    near = neighbours(plan)
    check_pane(near, one)
    check_pane(near, other)
    return near


def step_nearer(near, away, pane):
    """A pane one lead nearer to where away is counted from, and the lead between."""
    nearer = [pair for pair in near[pane] if away[pair[0]] < away[pane]]
    return nearer[0]


def way(plan, one, other):
    """The leads that a shortest way crosses, in order."""
    near = near_both(plan, one, other)
    away = distances(near, one)
    crossed = []
    here = other
    while here != one:
        here, name = step_nearer(near, away, here)
        crossed.append(name)
    return crossed[::-1]


def wall_behind(near, away, many):
    """The leads from panes so many leads away to those one further, rising."""
    return sorted([
        name
        for pane in near if away[pane] == many
        for beyond, name in near[pane] if away[beyond] == many + 1
    ])


def walls(plan, one, other):
    """For each lead of a shortest way all those that are crossed as far from its beginning."""
    near = near_both(plan, one, other)
    away = distances(near, one)
    return [wall_behind(near, away, many) for many in range(away[other])]
