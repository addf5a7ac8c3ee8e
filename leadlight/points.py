"""Points, turns, and the leads of a board."""

from leadlight.errors import BadPoint, BadSize, BadTurn

LARGEST = 9

# How far each of the turns 0 to 7 leads to the right, and downwards.
RIGHT = (1, 1, 0, -1, -1, -1, 0, 1)
DOWN = (0, 1, 1, 1, 0, -1, -1, -1)


def check_turn(turn):
    if not 0 <= turn <= 7:
        raise BadTurn("a turn is 0 to 7")


def is_size(width, height):
    return 1 <= width <= LARGEST and 1 <= height <= LARGEST


def check_size(width, height):
    if not is_size(width, height):
        raise BadSize("a width and a height are 1 to 9")


def is_point(width, height, x, y):
    """Whether a point is on the board."""
    return 0 <= x <= width and 0 <= y <= height


def check_point(width, height, x, y):
    if not is_point(width, height, x, y):
        raise BadPoint("the board has no such point")


def back(turn):
    """The opposite turn."""
    check_turn(turn)
    return (turn + 4) % 8


def step(x, y, turn, many=1):
    """The point so many steps on, on a board or off it."""
    check_turn(turn)
    return (x + many * RIGHT[turn], y + many * DOWN[turn])


def lead(x, y, turn):
    """The name of the lead from a point by a turn."""
    check_turn(turn)
    if turn < 4:
        return (x, y, turn)
    far_x, far_y = step(x, y, turn)
    return (far_x, far_y, back(turn))


def ends(name):
    """Both ends of a lead, first that from which it is named."""
    x, y, turn = name
    return ((x, y), step(x, y, turn))


def over(name):
    """The slant that would lie over this one; None for what isn't a slant."""
    x, y, turn = name
    if turn == 1:
        return (x + 1, y, 3)
    if turn == 3:
        return (x - 1, y, 1)
    return None


def is_frame(width, height, name):
    """Whether a lead of the board lies along its rim."""
    check_size(width, height)
    x, y, turn = name
    if turn == 0:
        return y == 0 or y == height
    return turn == 2 and (x == 0 or x == width)


def stays(width, height, x, y, turn):
    """Whether one step by a turn leads to a point of the board."""
    far_x, far_y = step(x, y, turn)
    return is_point(width, height, far_x, far_y)


def all_leads(width, height):
    """All leads that a board can have, the frame's too, rising."""
    check_size(width, height)
    return [
        (x, y, turn)
        for x in range(width + 1)
        for y in range(height + 1)
        for turn in range(4)
        if stays(width, height, x, y, turn)
    ]


def frame(width, height):
    """The leads along the board's rim, rising."""
    return [name for name in all_leads(width, height) if is_frame(width, height, name)]


def inner_leads(width, height):
    """The leads that a board can have within its frame, rising."""
    return [name for name in all_leads(width, height) if not is_frame(width, height, name)]
