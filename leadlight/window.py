"""Windows: a plan that goes through deeds, which can be taken back."""

from leadlight.code import code, read_code
from leadlight.drawing import drawing
from leadlight.errors import Full, NothingLeft
from leadlight.glass import check_colour, glazed, laid, pulled, shattered, stretch, used
from leadlight.panes import panes
from leadlight.pieces import pieces
from leadlight.plans import bare

MOST_DEEDS = 200


def growth(before, after):
    """By how many panes and pieces there are more in the plan behind a deed."""
    return (
        len(panes(after)) - len(panes(before)),
        len(pieces(after)) - len(pieces(before)),
    )


class Window:
    """A window, begun with the frame alone."""

    def __init__(self, width, height):
        # What stands is one value that no deed changes: the plan, and the pairs
        # (colour, quarters) lost so far. So it can be kept for taking back.
        self.standing = (bare(width, height), ())
        # Pairs of a deed and what stood ahead of it.
        self.past = []
        # Pairs of a deed and what stood behind it.
        self.undone = []

    def __eq__(self, other):
        return isinstance(other, Window) and self.standing == other.standing

    def __len__(self):
        return len(self.standing[0][2])

    def __str__(self):
        return f"{drawing(self.standing[0])}"

    def __repr__(self):
        return f"Window {code(self.standing[0])}"

    def keep(self, deed, after, gone):
        """Takes in a deed, which led to a plan and lost some glass."""
        if len(self.past) >= MOST_DEEDS:
            raise Full("at most 200 deeds stand")
        self.past.append((deed, self.standing))
        self.undone = []
        self.standing = (after, (*self.standing[1], *gone))

    def lay(self, x, y, turn, many=1):
        """Lays a stretch; by how many panes and pieces there are more then."""
        before = self.plan()
        after = laid(before, stretch(before, x, y, turn, many))
        self.keep(("lay", x, y, turn, many), after, [])
        return growth(before, after)

    def pull(self, x, y, turn, many=1):
        """Pulls a stretch out; by how many panes and pieces there are more then."""
        before = self.plan()
        after, gone = pulled(before, stretch(before, x, y, turn, many))
        self.keep(("pull", x, y, turn, many), after, gone)
        return growth(before, after)

    def glaze(self, quarter, colour=1):
        """Sets glass in a pane; how many quarters it has."""
        before = self.plan()
        after = glazed(before, quarter, colour)
        self.keep(("glaze", quarter, colour), after, [])
        return used(after, colour) - used(before, colour)

    def shatter(self, quarter):
        """Breaks the glass of a pane; its colour."""
        before = self.plan()
        after = shattered(before, quarter)
        colour = before[3][quarter]
        self.keep(("shatter", quarter), after, [(colour, used(before, colour) - used(after, colour))])
        return colour

    def undo(self):
        """Takes the last deed back, and tells it."""
        if not self.past:
            raise NothingLeft("there is no deed to take back")
        deed, before = self.past.pop()
        self.undone.append((deed, self.standing))
        self.standing = before
        return deed

    def redo(self):
        """Does again what was taken back last, and tells it."""
        if not self.undone:
            raise NothingLeft("there is no deed to do again")
        deed, after = self.undone.pop()
        self.past.append((deed, self.standing))
        self.standing = after
        return deed

    def deeds(self):
        """The deeds that stand, the eldest first."""
        return [deed for deed, before in self.past]

    def plan(self):
        """The plan that stands."""
        return self.standing[0]

    def lost(self, colour):
        """How many quarters of a colour were lost."""
        check_colour(colour)
        return sum([many for one, many in self.standing[1] if one == colour])

    def bought(self, colour):
        """How many quarters of a colour were set in all."""
        return used(self.plan(), colour) + self.lost(colour)

    def twin(self):
        """A window equal to this one, with the same to take back and to do again."""
        plan = self.plan()
        other = Window(plan[0], plan[1])
        other.standing = self.standing
        other.past = list(self.past)
        other.undone = list(self.undone)
        return other


def window_of(text):
    """A window that stands as a code tells, with nothing to take back."""
    plan = read_code(text)
    window = Window(plan[0], plan[1])
    window.standing = (plan, ())
    return window
