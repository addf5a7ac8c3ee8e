"""Moves: plans mirrored and turned."""

from leadlight.plans import quarter_at
from leadlight.points import check_turn, lead


def all_quarters(width, height):
    """All (x, y, part) of a board, by the numbers of the quarters."""
    return [(x, y, part) for y in range(height) for x in range(width) for part in range(4)]


def flipped(plan):
    """A plan mirrored, left for right."""
    width, height, within, glass = plan
    names = [lead(width - x, y, 4 - turn) for x, y, turn in within]
    colours = [
        glass[quarter_at(plan, width - 1 - x, y, (4 - part) % 4)]
        for x, y, part in all_quarters(width, height)
    ]
    return (width, height, tuple(sorted(names)), tuple(colours))


def turned(plan):
    """A plan turned to the right by a quarter turn."""
    width, height, within, glass = plan
    names = [lead(height - y, x, turn + 2) for x, y, turn in within]
    # Looked up from the turned board, whose width is the height that was.
    colours = [
        glass[quarter_at(plan, y, height - 1 - x, (part + 3) % 4)]
        for x, y, part in all_quarters(height, width)
    ]
    return (height, width, tuple(sorted(names)), tuple(colours))


def mirrored(plan, turn):
    """A plan moved: mirrored first from 4 on, then turned by the rest by 4."""
    check_turn(turn)
    moved = flipped(plan) if turn >= 4 else plan
    for quarter_turn in range(turn % 4):
        moved = turned(moved)
    return moved


def all_moved(plan):
    return [mirrored(plan, turn) for turn in range(8)]


def least_form(plan):
    """The least of the eight moved plans."""
    return min(all_moved(plan))


def alike(one, other):
    """Whether one of the eight moves makes the one plan of the other."""
    return other in all_moved(one)
