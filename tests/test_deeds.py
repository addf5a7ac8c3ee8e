"""leadlight.deeds: deeds done, written and read, and pages written."""

import unittest

from helper import GREAT, SIGNS, VERY_GREAT, Model, Refusals, some_deeds
from leadlight.deeds import deed_text, done, page, read_deed
from leadlight.errors import (
    BadColour, BadMany, BadPoint, BadQuarter, BadText, BadTurn, Crossing, Framed, Full, Glazed,
    NoGlass, NoLead, Off, Taken,
)
from leadlight.plans import bare
from leadlight.window import Window

# How many numbers each has.
WORDS = {"lay": 4, "pull": 4, "glaze": 2, "shatter": 1}

NUMBERS = (0, 1, 7, 9, 10, 19, 42, 99, 100, 101, 200, 323, 900, 999)


def good_deeds():
    for word, many in WORDS.items():
        for at in range(len(NUMBERS)):
            yield (word, *[NUMBERS[(at + 5 * k) % len(NUMBERS)] for k in range(many)])
        for number in NUMBERS:
            yield (word, *[number] * many)


def is_line(text):
    """Whether a text writes a deed, looked at word by word."""
    word, *rest = text.split(" ")
    numbers = [str(number) for number in range(1000)]
    return WORDS.get(word) == len(rest) and all(one in numbers for one in rest)


class Done(Refusals):
    def test_each_tells_what_its_method_tells(self):
        window = Window(2, 1)
        self.same(done(window, ("lay", 1, 0, 2, 1)), (1, 0))
        self.same(done(window, ("glaze", 0, 3)), 4)
        self.same(done(window, ("glaze", 4, 5)), 4)
        self.same(done(window, ("shatter", 1)), 3)
        self.same(done(deed=("pull", 1, 1, 6, 1), window=window), (-1, 0))
        self.same(window.plan(), bare(2, 1))
        self.same([window.lost(3), window.lost(5)], [4, 4])

    def test_the_deeds_that_stand(self):
        window, model = Window(4, 3), Model(bare(4, 3))
        for deed in some_deeds(4, 3, 120, 3):
            told = model.do(deed)
            if not isinstance(told, list):
                self.same(done(window, deed), told)
        self.same([window.deeds(), window.plan()], [model.deeds(), model.plan()])

    def test_refusals(self):
        window = Window(2, 2)
        done(window, ("lay", 0, 0, 1, 1))
        for word in ("lay", "pull"):
            self.refused(BadPoint, done, window, (word, 3, 0, 8, 0))
            self.refused(BadTurn, done, window, (word, 0, 0, 8, 0))
            self.refused(BadMany, done, window, (word, 0, 0, 4, 0))
            self.refused_at(0, Off, done, window, (word, 0, 0, 4, 1))
            for great in VERY_GREAT:
                self.refused(BadPoint, done, window, (word, great, great, great, great))
                self.refused(BadMany, done, window, (word, 0, 0, 0, great))
        self.refused_at(0, Taken, done, window, ("lay", 0, 0, 1, 2))
        self.refused_at(0, Crossing, done, window, ("lay", 1, 0, 3, 1))
        self.refused_at(0, Framed, done, window, ("pull", 0, 0, 0, 1))
        self.refused_at(1, NoLead, done, window, ("pull", 0, 0, 1, 2))
        self.refused(BadQuarter, done, window, ("glaze", 16, 0))
        self.refused(BadColour, done, window, ("glaze", 15, 0))
        self.refused(BadQuarter, done, window, ("shatter", 16))
        self.refused(NoGlass, done, window, ("shatter", 0))
        done(window, ("glaze", 0, 1))
        self.refused(Glazed, done, window, ("glaze", 15, 1))
        self.same(window.deeds(), [("lay", 0, 0, 1, 1), ("glaze", 0, 1)])

    def test_full(self):
        window = Window(1, 1)
        for _ in range(100):
            done(window, ("glaze", 0, 1))
            done(window, ("shatter", 0))
        self.refused(Full, done, window, ("glaze", 0, 1))


class DeedText(Refusals):
    def test_written_out(self):
        self.same(deed_text(("lay", 0, 1, 2, 3)), "lay 0 1 2 3")
        self.same(deed_text(("pull", 9, 0, 7, 1)), "pull 9 0 7 1")
        self.same(deed_text(("glaze", 323, 9)), "glaze 323 9")
        self.same(deed_text(deed=("shatter", 0)), "shatter 0")

    def test_great_numbers(self):
        self.same(deed_text(("shatter", GREAT)), "shatter " + "9" * 60)
        self.same(deed_text(("glaze", 1000, -1)), "glaze 1000 -1")


class ReadDeed(Refusals):
    def test_written_out(self):
        self.same(read_deed("lay 0 1 2 3"), ("lay", 0, 1, 2, 3))
        self.same(read_deed("pull 10 100 999 0"), ("pull", 10, 100, 999, 0))
        self.same(read_deed("glaze 323 9"), ("glaze", 323, 9))
        self.same(read_deed(line="shatter 0"), ("shatter", 0))

    def test_each_is_read_back(self):
        for deed in good_deeds():
            self.same(read_deed(deed_text(deed)), deed)
            self.same(read_deed(" ".join(map(str, deed))), deed)

    def test_all_numbers(self):
        for number in range(1000):
            self.same(read_deed(f"shatter {number}"), ("shatter", number))
            self.same(read_deed(f"lay 0 {number} 5 {number}"), ("lay", 0, number, 5, number))


class BadLines(Refusals):
    def bad(self, *lines):
        for line in lines:
            with self.subTest(line=line):
                self.assertFalse(is_line(line))
                self.refused_at(0, BadText, read_deed, line)

    def looked_at(self, line):
        if is_line(line):
            self.same(deed_text(read_deed(line)), line)
        else:
            self.bad(line)

    def test_by_name(self):
        self.refused_at(0, BadText, read_deed, line="")

    def test_empty_and_blank(self):
        self.bad("", " ", "  ", "    ", "\n", "0", "1 2 3 4", "lay", "pull", "glaze", "shatter")

    def test_noughts_ahead_of_others(self):
        self.bad("shatter 00", "shatter 01", "shatter 007", "shatter 010", "shatter 000")
        self.bad("glaze 0 01", "glaze 00 1", "lay 0 0 0 01", "lay 00 0 0 1", "pull 0 0 07 1")

    def test_four_figures(self):
        self.bad("shatter 1000", "shatter 0999", "shatter 9999", "glaze 1000 1", "glaze 1 1000")
        self.bad("lay 0 0 0 1000", "lay 1000 0 0 1", "shatter " + "9" * 60, "shatter " + "1" * 6000)

    def test_signs(self):
        self.bad("shatter -1", "shatter +1", "shatter -0", "shatter 1.0", "shatter 1_0", "shatter 0x1")
        self.bad("shatter 1,", "shatter (1)", "glaze 1,2", "glaze -1 1", "glaze 1 +1", "shatter 1e1")
        self.bad("shatter a", "shatter one", "shatter ~", "lay 0 0 0 -1", "shatter \\1", "shatter 'I'")

    def test_blanks(self):
        for deed in good_deeds():
            line = deed_text(deed)
            self.bad(" " + line, line + " ", line.replace(" ", "  ", 1), "  ".join(line.rsplit(" ", 1)))
            self.bad(line.replace(" ", ""), line.replace(" ", "\t"), line.replace(" ", ","))

    def test_line_feeds(self):
        for deed in good_deeds():
            line = deed_text(deed)
            self.bad(line + "\n", "\n" + line, line.replace(" ", "\n", 1), line + "\n" + line)
            self.bad(line.replace(" ", " \n", 1), line.replace(" ", "\n ", 1))

    def test_words_too_many_or_too_few(self):
        for word, many in WORDS.items():
            for other in range(8):
                if other != many:
                    self.bad(" ".join([word] + ["1"] * other))

    def test_other_words(self):
        for word in ("Lay", "LAY", "lays", "la", "push", "set", "break", "undo", "redo", "open", "1", "-"):
            for many in range(6):
                self.bad(" ".join([word] + ["1"] * many))
        self.bad("layer 0 0 0 1", "lay, 0 0 0 1", "glaze shatter 1", "shatter lay", "1 shatter", "1 lay 0 0 0 1")

    def test_each_sign_put_in_left_out_and_changed(self):
        for line in ("lay 1 20 3 4", "pull 10 0 7 1", "glaze 323 9", "shatter 100"):
            for at in range(len(line) + 1):
                for sign in SIGNS + "\n":
                    self.looked_at(line[:at] + sign + line[at:])
                    self.looked_at(line[:at] + sign + line[at + 1:])
                self.looked_at(line[:at] + line[at + 1:])
                self.looked_at(line[:at])


class Pages(Refusals):
    def test_with_no_deed(self):
        self.same(page(Window(1, 1)), "1 1\n")
        self.same(page(window=Window(9, 4)), "9 4\n")

    def test_with_some(self):
        window = Window(2, 1)
        window.lay(1, 0, 2)
        window.glaze(4)
        window.shatter(7)
        window.pull(1, 1, 6)
        self.same(page(window), "2 1\nlay 1 0 2 1\nglaze 4 1\nshatter 7\npull 1 1 6 1\n")

    def test_what_was_taken_back_is_not_written(self):
        window = Window(2, 1)
        window.lay(1, 0, 2)
        window.glaze(0, 3)
        window.undo()
        self.same(page(window), "2 1\nlay 1 0 2 1\n")
        window.undo()
        self.same(page(window), "2 1\n")
        window.redo()
        window.redo()
        self.same(page(window), "2 1\nlay 1 0 2 1\nglaze 0 3\n")

    def test_with_two_hundred(self):
        window = Window(1, 1)
        for _ in range(100):
            window.lay(0, 1, 7)
            window.pull(1, 0, 3)
        self.same(page(window), "1 1\n" + "lay 0 1 7 1\npull 1 0 3 1\n" * 100)

    def test_it_changes_nothing(self):
        window = Window(2, 1)
        window.lay(1, 0, 2)
        window.glaze(0, 3)
        window.undo()
        page(window)
        self.same(window.deeds(), [("lay", 1, 0, 2, 1)])
        self.same(window.redo(), ("glaze", 0, 3))


if __name__ == "__main__":
    unittest.main()
