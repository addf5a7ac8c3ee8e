"""leadlight.pages: pages read to windows."""

import unittest

from helper import COLOURS, SIGNS, Model, Refusals, some_deeds
from leadlight.deeds import deed_text, done, page
from leadlight.errors import BadText, NothingLeft
from leadlight.pages import read_page
from leadlight.plans import bare
from leadlight.window import Window

# A page of a window in which all four deeds were done, and glass was lost twice.
GOOD = (
    "3 2\nlay 0 0 1 2\nlay 1 0 2 2\nglaze 0 4\nglaze 4 5\nshatter 4\nglaze 5 6\n"
    "pull 1 0 2 1\nlay 3 0 3 1\n"
)

# A page of two hundred deeds.
LONG = "1 1\n" + "glaze 0 2\nshatter 3\n" * 100


def some_window(width, height, many, seed):
    """A window in which some deeds were done."""
    window, model = Window(width, height), Model(bare(width, height))
    for deed in some_deeds(width, height, many, seed):
        if not isinstance(model.do(deed), list):
            done(window, deed)
    return window


def is_number(word):
    return word in [str(number) for number in range(1000)]


def fault_in(text):
    """The row that has to be told for a text, None where it is a page."""
    model = None
    rows = text.split("\n")
    for at, row in enumerate(rows):
        if at == len(rows) - 1:
            return at if row or at == 0 else None
        words = row.split(" ")
        if at == 0:
            sides = [str(side) for side in range(1, 10)]
            if len(words) != 2 or words[0] not in sides or words[1] not in sides:
                return 0
            model = Model(bare(int(words[0]), int(words[1])))
            continue
        many = {"lay": 4, "pull": 4, "glaze": 2, "shatter": 1}.get(words[0])
        if len(words[1:]) != many or not all(map(is_number, words[1:])):
            return at
        if isinstance(model.do((words[0], *map(int, words[1:]))), list):
            return at


class ReadPage(Refusals):
    def test_with_no_deed(self):
        for width in range(1, 10):
            for height in range(1, 10):
                window = read_page(f"{width} {height}\n")
                self.assertIs(type(window), Window)
                self.same([window.plan(), window.deeds()], [bare(width, height), []])
                self.refused(NothingLeft, window.undo)
                self.refused(NothingLeft, window.redo)

    def test_with_some(self):
        window = read_page(text=GOOD)
        self.assertEqual(len(window.deeds()), 8)
        self.same(page(window), GOOD)
        self.same([window.lost(colour) for colour in COLOURS], [0, 0, 0, 2, 14, 14, 0, 0, 0])
        self.same(window.undo(), ("lay", 3, 0, 3, 1))
        self.same(window.undo(), ("pull", 1, 0, 2, 1))
        for _ in range(6):
            window.undo()
        self.refused(NothingLeft, window.undo)
        self.same(window.plan(), bare(3, 2))

    def test_each_page_gives_the_window_back(self):
        for seed, (width, height) in enumerate(((1, 1), (2, 2), (4, 3), (9, 9), (1, 9))):
            window = some_window(width, height, 90, seed)
            read = read_page(page(window))
            self.assertIs(read == window, True)
            self.same(read.deeds(), window.deeds())
            for colour in COLOURS:
                self.same(
                    [read.lost(colour), read.bought(colour)],
                    [window.lost(colour), window.bought(colour)],
                )
            while window.deeds():
                self.same(read.undo(), window.undo())
                self.assertIs(read == window, True)

    def test_with_two_hundred(self):
        window = read_page(LONG)
        self.assertEqual(len(window.deeds()), 200)
        self.same([window.lost(2), page(window)], [400, LONG])

    def test_what_was_taken_back_is_not_there(self):
        window = Window(2, 1)
        window.lay(1, 0, 2)
        window.glaze(0)
        window.undo()
        self.refused(NothingLeft, read_page(page(window)).redo)

    def test_each_is_a_window_of_its_own(self):
        one, other = read_page(GOOD), read_page(GOOD)
        one.undo()
        self.same(page(other), GOOD)


class BadPages(Refusals):
    def bad(self, at, *texts):
        for text in texts:
            with self.subTest(text=text):
                self.assertEqual(fault_in(text), at)
                self.refused_at(at, BadText, read_page, text)

    def looked_at(self, text):
        at = fault_in(text)
        if at is None:
            self.same(page(read_page(text)), text)
        else:
            self.bad(at, text)

    def test_by_name(self):
        self.refused_at(0, BadText, read_page, text="")

    def test_the_empty_text(self):
        self.bad(0, "", "\n", "\n\n", " ", " \n", "\n1 1\n")

    def test_sizes_that_are_refused(self):
        for side in (0, 10, 11, 99, 100, 999):
            self.bad(0, f"{side} 3\n", f"3 {side}\n", f"{side} {side}\n", f"{side} 3\nglaze 0 1\n")

    def test_sizes_that_are_not_written_so(self):
        self.bad(0, "3\n", "3 3 3\n", "3  3\n", " 3 3\n", "3 3 \n", "3x3\n", "3,3\n", "33\n")
        self.bad(0, "03 3\n", "3 03\n", "+3 3\n", "-3 3\n", "3 a\n", "1000 3\n", "3 0003\n", "3.0 3\n")
        self.bad(0, "3x3 0000.0000.0000.0000 " + "0" * 36 + "\n", "lay 0 0 1 1\n", "size 3 3\n")

    def test_a_first_row_without_its_line_feed(self):
        self.bad(0, "3 3", "1 1", "9 9", "10 3", "3", "x")

    def test_rows_that_write_nothing(self):
        self.bad(1, "3 3\n\n", "3 3\n \n", "3 3\n3 3\n", "3 3\nx\n", "3 3\nlay\n", "3 3\nLAY 0 0 1 1\n")
        self.bad(1, "3 3\nlay 0 0 1\n", "3 3\nlay 0 0 1 01\n", "3 3\nlay 0 0 1 1 \n", "3 3\n lay 0 0 1 1\n")
        self.bad(1, "3 3\nlay 0  0 1 1\n", "3 3\nundo\n", "3 3\nshatter -1\n", "3 3\nglaze 1000 1\n")
        self.bad(2, "3 3\nlay 0 0 1 1\n\n", "3 3\nlay 0 0 1 1\n\nlay 1 1 1 1\n", "3 3\nglaze 0 1\nglaze\n")

    def test_deeds_that_are_refused(self):
        begun = "3 3\nlay 0 0 1 1\n"
        for deed in (
            "lay 4 0 0 1", "lay 0 4 0 1", "lay 0 0 8 1", "lay 0 0 1 0", "lay 0 0 1 10", "lay 0 0 4 1",
            "lay 1 1 1 3", "lay 0 0 1 1", "lay 0 0 0 1", "lay 1 0 3 1", "pull 4 4 0 1", "pull 0 0 9 1",
            "pull 0 0 1 999", "pull 0 0 5 1", "pull 0 0 0 1", "pull 0 0 1 2", "pull 1 1 0 1",
            "glaze 36 1", "glaze 0 0", "glaze 0 10", "shatter 36", "shatter 0",
        ):
            self.bad(2, begun + deed + "\n", begun + deed + "\nlay 1 1 1 1\n", begun + deed + "\nx\n")
            self.bad(3, begun + "lay 2 2 1 1\n" + deed + "\n")
        self.bad(3, begun + "glaze 0 1\nglaze 1 2\n")

    def test_the_last_row_without_its_line_feed(self):
        self.bad(1, "3 3\nlay 0 0 1 1", "3 3\nx", "3 3\n ", "3 3\nlay 9 9 9 9")
        self.bad(8, GOOD[:-1])
        self.bad(200, LONG[:-1])
        # What is wrong ahead of it comes first.
        self.bad(1, "3 3\nx\nlay 0 0 1 1", "3 3\n\nlay 0 0 1 1", "3 3\nlay 0 0 4 1\nlay 0 0 1 1")
        self.bad(0, "0 3\nlay 0 0 1 1", "3\nx", "\nlay 0 0 1 1")

    def test_a_row_too_many_behind_two_hundred_deeds(self):
        self.bad(201, LONG + "glaze 0 2\n", LONG + "glaze 0 2", LONG + "x\n", LONG + "\n", LONG + "shatter 0\n")
        self.bad(201, LONG + "glaze 0 2\nshatter 0\n")

    def test_empty_rows(self):
        rows = GOOD.split("\n")
        for at in range(len(rows)):
            self.bad(at, "\n".join(rows[:at] + [""] + rows[at:]))

    def test_rows_left_out_exchanged_and_doubled(self):
        rows = GOOD.split("\n")
        for at in range(len(rows)):
            self.looked_at("\n".join(rows[:at] + rows[at + 1:]))
            self.looked_at("\n".join(rows[:at] + [rows[at]] + rows[at:]))
            for other in range(at):
                changed = list(rows)
                changed[at], changed[other] = rows[other], rows[at]
                self.looked_at("\n".join(changed))

    def test_each_sign_put_in_left_out_and_changed(self):
        for at in range(len(GOOD) + 1):
            self.looked_at(GOOD[:at])
            self.looked_at(GOOD[:at] + GOOD[at + 1:])
            for sign in "0123456789 x-\n":
                self.looked_at(GOOD[:at] + sign + GOOD[at:])
                self.looked_at(GOOD[:at] + sign + GOOD[at + 1:])

    def test_all_signs_on_a_small_page(self):
        text = "1 1\nlay 0 0 1 1\n"
        for at in range(len(text) + 1):
            for sign in SIGNS + "\n":
                self.looked_at(text[:at] + sign + text[at:])
                self.looked_at(text[:at] + sign + text[at + 1:])

    def test_written_by_deeds(self):
        window = some_window(3, 3, 60, 8)
        rows = ["3 3"] + [deed_text(deed) for deed in window.deeds()]
        self.same(read_page("".join(row + "\n" for row in rows)).plan(), window.plan())


if __name__ == "__main__":
    unittest.main()
