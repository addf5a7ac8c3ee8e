"""Deeds: done in windows, written and read."""

from leadlight.errors import BadText

# By the words of deeds: how many numbers they have.
COUNTS = {"lay": 4, "pull": 4, "glaze": 2, "shatter": 1}

MOST_FIGURES = 3


def is_number(word):
    """Whether a word writes a number: 1 to 3 figures, no nought ahead of others."""
    return word.isdecimal() and len(word) <= MOST_FIGURES and str(int(word)) == word


def are_numbers(words, many):
    """Whether these are so many words, each of which writes a number."""
    return len(words) == many and all([is_number(word) for word in words])


def done(window, deed):
    """Does a deed in a window and tells what its method tells."""
    word, *numbers = deed
    if word == "lay":
        return window.lay(*numbers)
    if word == "pull":
        return window.pull(*numbers)
    if word == "glaze":
        return window.glaze(*numbers)
    return window.shatter(*numbers)


def deed_text(deed):
    """The line that writes a deed."""
    return " ".join([str(one) for one in deed])


def read_deed(line):
    """The deed that a line writes."""
    word, *rest = line.split(" ")
    if word not in COUNTS or not are_numbers(rest, COUNTS[word]):
        raise BadText(0)
    numbers = [int(one) for one in rest]
    return (word, *numbers)


def page(window):
    """The size of a window and the deeds that stand in it, row by row."""
    width, height, within, glass = window.plan()
    rows = [f"{width} {height}"] + [deed_text(deed) for deed in window.deeds()]
    return "".join([row + "\n" for row in rows])
