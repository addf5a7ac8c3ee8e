"""Leads that part panes, and leads that don't."""

from leadlight.borders import sides_of
from leadlight.panes import check_pane, names


def whole(joined, pane):
    """The pane by which all that a pane was joined to is known."""
    here = pane
    while joined[here] != here:
        here = joined[here]
    return here


def to_pull(plan):
    """The leads that make all one pane when they are pulled out, rising."""
    found = names(plan)
    joined = {pane: pane for pane in found}
    told = []
    for name in plan[2]:
        one, other = sides_of(plan, found, name)
        here, beyond = whole(joined, one), whole(joined, other)
        if here != beyond:
            joined[beyond] = here
            told.append(name)
    return told


def idle(plan):
    """The leads within with one pane at both sides, rising."""
    found = names(plan)
    told = []
    for name in plan[2]:
        one, other = sides_of(plan, found, name)
        if one == other:
            told.append(name)
    return told


def between(plan, one, other):
    """The leads with these two panes at their sides, rising; none where they are one."""
    found = names(plan)
    check_pane(found, one)
    check_pane(found, other)
    if one == other:
        return []
    return [name for name in plan[2] if sides_of(plan, found, name) in ((one, other), (other, one))]
