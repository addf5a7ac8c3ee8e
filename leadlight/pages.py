"""Pages read to windows."""

from leadlight.deeds import are_numbers, done, read_deed
from leadlight.errors import BadSize, BadText, LeadError, Missing
from leadlight.window import Window


def begin(row):
    """A new window of the size that a page's first row writes."""
    words = row.split(" ")
    if not are_numbers(words, 2):
        raise BadText(0)
    try:
        return Window(int(words[0]), int(words[1]))
    except BadSize:
        raise BadText(0) from None


def do_row(window, at, row):
    """Does the deed that a page's row writes."""
    try:
        done(window, read_deed(row))
    except (LeadError, Missing):
        raise BadText(at) from None


def read_page(text):
    """The window in which the deeds of a page were done."""
    # What stands behind the last line feed is a row that lacks its own, or nothing.
    *rows, rest = text.split("\n")
    if not rows:
        raise BadText(0)
    window = begin(rows[0])
    for at, row in enumerate(rows[1:], start=1):
        do_row(window, at, row)
    if rest != "":
        raise BadText(len(rows))
    return window
