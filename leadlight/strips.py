"""Strips: rows of points that lay all leads."""

from leadlight.pieces import pieces, ties


def count_strips(tied, piece):
    """How many strips at least lay the leads of a piece."""
    odd = [point for point in piece if len(tied[point]) % 2 == 1]
    return max(1, len(odd) // 2)


def fewest(plan):
    """How many strips at least lay all leads."""
    tied = ties(plan)
    return sum([count_strips(tied, piece) for piece in pieces(plan)])


def trail(waiting, start):
    """Goes from a point along leads that still wait, until none waits where one is."""
    row = [start]
    here = start
    while waiting[here]:
        beyond = waiting[here].pop()
        waiting[beyond].remove(here)
        row.append(beyond)
        here = beyond
    return row


def with_rounds(waiting, strip):
    """A strip and, put in at its points, all the rounds that still wait there."""
    row = list(strip)
    at = 0
    while at < len(row):
        # An even number of leads waits everywhere, so this comes back to its start.
        row[at:at + 1] = trail(waiting, row[at])
        at += 1
    return row


def strips_of(waiting, piece):
    """The strips of one piece, as few as can be."""
    begun = []
    # From a point with an odd number of leads one ends at another such point.
    for point in piece:
        if len(waiting[point]) % 2 == 1:
            begun.append(trail(waiting, point))
    if not begun:
        begun.append([piece[0]])
    return [with_rounds(waiting, strip) for strip in begun]


def strips(plan):
    """Strips that lay all leads, as few as can be."""
    waiting = ties(plan)
    rows = []
    for piece in pieces(plan):
        rows.extend(strips_of(waiting, piece))
    return rows
