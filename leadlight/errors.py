"""What is refused, a class for each kind of refusal.

No message writes out a number that was handed in: Python itself refuses to
write one of very many figures, and would do so with an error of its own.
"""


class LeadError(ValueError):
    """Something handed in can't be taken."""


class BadSize(LeadError):
    """A width or a height isn't 1 to 9."""


class BadPoint(LeadError):
    """A point isn't on the board."""


class BadTurn(LeadError):
    """A turn isn't 0 to 7."""


class BadMany(LeadError):
    """A stretch isn't 1 to 9 leads long."""


class BadQuarter(LeadError):
    """The board has no quarter of that number."""


class BadColour(LeadError):
    """A colour isn't 1 to 9."""


class NoPane(LeadError):
    """No pane is named by that number."""


class Glazed(LeadError):
    """The pane has glass already."""


class Full(LeadError):
    """There is no room for one more."""


class AtStep(LeadError):
    """Something is refused at a step or a row, whose number is `at`."""

    def __init__(self, at):
        self.at = at


class Off(AtStep):
    """The step leaves the board."""


class Taken(AtStep):
    """A lead lies there already."""


class Crossing(AtStep):
    """The lead would lie over or under a slant."""


class Framed(AtStep):
    """The lead is one of the frame."""


class BadText(AtStep):
    """The text isn't written as it has to be."""


class Missing(LookupError):
    """What was asked for isn't there."""


class NoLead(Missing):
    """No lead lies there, at the step `at`."""

    def __init__(self, at):
        self.at = at


class NoGlass(Missing):
    """The pane has no glass."""


class NoWindow(Missing):
    """The desk has no window of that number."""


class NothingLeft(IndexError):
    """There is nothing to take back or to do again."""
