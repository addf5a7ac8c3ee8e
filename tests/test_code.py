"""leadlight.code: plans written as codes, and read from them."""

import unittest

from helper import (
    BY_HAND, COLOURS, NESTED, SIGNS, SIZES, Raster, Refusals,
    glassy_plans, good_plans, mixed, plan_of, rim_of, with_glass, within_of,
)
from leadlight.code import code, read_code
from leadlight.errors import BadText
from leadlight.plans import bare, is_plan

HALVES = "1x1 20.00 1122"


def code_by_hand(plan):
    width, height, within, glass = plan
    rows = []
    for y in range(height + 1):
        row = ""
        for x in range(width + 1):
            figure = 0
            for turn, worth in enumerate((1, 2, 4, 8)):
                if (x, y, turn) in within:
                    figure += worth
            row += "0123456789abcdef"[figure]
        rows.append(row)
    return f"{width}x{height} " + ".".join(rows) + " " + "".join(map(str, glass))


def all_plans():
    return list(good_plans()) + list(glassy_plans())


class Code(Refusals):
    def test_written_out(self):
        self.same(code(bare(1, 1)), "1x1 00.00 0000")
        self.same(code(bare(2, 1)), "2x1 000.000 00000000")
        self.same(code(bare(1, 2)), "1x2 00.00.00 00000000")
        self.same(code((1, 1, ((0, 0, 1),), (1, 1, 2, 2))), HALVES)
        self.same(code((1, 1, ((1, 0, 3),), (9, 0, 0, 9))), "1x1 08.00 9009")
        plan = (2, 1, ((0, 0, 1), (1, 0, 2), (2, 0, 3)), (1, 1, 2, 2, 3, 4, 4, 3))
        self.same(code(plan), "2x1 248.000 11223443")

    def test_all_figures(self):
        for figure in range(16):
            some = [(3, 3, turn) for turn in range(4) if figure >> turn & 1]
            told = code(plan_of(6, 6, some)).split(" ")[1].split(".")
            row = "000" + "0123456789abcdef"[figure] + "000"
            self.same(told, ["0000000"] * 3 + [row] + ["0000000"] * 3)

    def test_a_great_board(self):
        plan = plan_of(9, 9, [name for name in within_of(9, 9) if name[2] != 3])
        inner = "3" + "7" * 8 + "0"
        rows = ["2" + "6" * 8 + "0"] + [inner] * 8 + ["0" * 10]
        self.same(code(plan), "9x9 " + ".".join(rows) + " " + "0" * 324)
        plan = (9, 9, (), (5,) * 324)
        self.same(code(plan), "9x9 " + ".".join(["0" * 10] * 10) + " " + "5" * 324)

    def test_sign_by_sign(self):
        for plan in all_plans():
            self.same(code(plan), code_by_hand(plan))
            self.same(code(plan=plan), code_by_hand(plan))


class ReadCode(Refusals):
    def test_written_out(self):
        self.same(read_code("1x1 00.00 0000"), bare(1, 1))
        self.same(read_code(HALVES), (1, 1, ((0, 0, 1),), (1, 1, 2, 2)))
        plan = (2, 1, ((0, 0, 1), (1, 0, 2), (2, 0, 3)), (1, 1, 2, 2, 3, 4, 4, 3))
        self.same(read_code(text="2x1 248.000 11223443"), plan)

    def test_each_code_gives_the_plan_back(self):
        for plan in all_plans():
            self.same(read_code(code(plan)), plan)
            self.same(read_code(text=code_by_hand(plan)), plan)


def is_code(text):
    """Whether a text is the code of a plan, read without much care."""
    try:
        size, rows, colours = text.split(" ")
        width, height = int(size[0]), int(size[2])
        found = []
        for y, row in enumerate(rows.split(".")):
            for x, sign in enumerate(row):
                found += [(x, y, turn) for turn in range(4) if int(sign, 16) >> turn & 1]
        glass = tuple(map(int, colours))
    except (ValueError, IndexError):
        return False
    plan = (width, height, tuple(sorted(found)), glass)
    if not is_plan(plan) or code_by_hand(plan) != text:
        return False
    names = Raster(plan).names
    return all(glass[quarter] == glass[pane] for quarter, pane in enumerate(names))


class BadCodes(Refusals):
    def bad(self, *texts):
        for text in texts:
            with self.subTest(text=text):
                self.refused_at(0, BadText, read_code, text)

    def looked_at(self, texts):
        """That each is read where it is a code, and refused where it isn't."""
        for text in texts:
            with self.subTest(text=text):
                if is_code(text):
                    self.same(code(read_code(text)), text)
                else:
                    self.refused_at(0, BadText, read_code, text)

    def test_by_name(self):
        self.refused_at(0, BadText, read_code, text="")

    def test_empty_texts_and_words_alone(self):
        self.bad("", " ", "  ", "   ", "\n", "1x1", "1x1 ", "1x1  ", "1x1 00.00", "1x1 00.00 ")
        self.bad("x", "1", "11", "xx", "1x", "x1", "Window 1x1 00.00 0000")

    def test_words_too_many_or_too_few(self):
        self.bad("1x1 00.00 0000 0000", "1x1 00.00 0000 ", " 1x1 00.00 0000", "1x1  00.00 0000")
        self.bad("1x1 00.00  0000", "1x1 00 00 0000", "1 x 1 00.00 0000", "00.00 0000", "1x1 0000")
        self.bad("1x1 00.00 00 00", "1x100.00 0000", "1x1 00.000000", "1x1 00.00 0000 x")

    def test_line_feeds(self):
        self.bad("1x1 00.00 0000\n", "\n1x1 00.00 0000", "1x1\n00.00 0000", "1x1 00.00\n0000")
        self.bad("1x1 00\n00 0000", "1x1 00.00 00\n00", "1x1 00.00 0000\n\n", "1x1 00.00 000\n")

    def test_sizes(self):
        for side in range(-2, 30):
            for good in (1, 5, 9):
                for width, height in ((side, good), (good, side)):
                    if not (1 <= width <= 9 and 1 <= height <= 9):
                        rows = ".".join(["0" * (width + 1)] * (height + 1))
                        self.bad(f"{width}x{height} {rows} " + "0" * (4 * width * height))
        self.bad("0x0 0 ", "01x1 00.00 0000", "1x01 00.00 0000", "+1x1 00.00 0000")
        self.bad("1X1 00.00 0000", "1*1 00.00 0000", "1,1 00.00 0000", "1.1 00.00 0000")
        self.bad("ax1 " + "0" * 11 + "." + "0" * 11 + " " + "0" * 40, "1xx1 00.00 0000")

    def test_a_size_that_is_another_plans(self):
        text = "000.000.000 " + "0" * 16
        self.same(read_code("2x2 " + text), bare(2, 2))
        self.bad("1x2 " + text, "2x1 " + text, "1x1 " + text, "3x3 " + text, "4x1 " + text)
        self.bad("2x1 00.00.00 00000000", "1x2 000.000 00000000", "1x2 00.00.00 0000")

    def test_rows_too_many_too_few_too_long_too_short(self):
        self.bad("1x1 00 0000", "1x1 00.00.00 0000", "1x1 000.00 0000", "1x1 00.000 0000")
        self.bad("1x1 0.00 0000", "1x1 00.0 0000", "1x1 00.00. 0000", "1x1 .00.00 0000")
        self.bad("1x1 00..00 0000", "1x1 0.0.0.0 0000", "1x1 0000 0000", "1x1 . 0000")
        self.bad("1x1 000.0 0000", "1x1 0.000 0000", "1x1 00.00 000", "1x1 00.00 00000")

    def test_figures_of_another_kind(self):
        self.bad("1x1 A0.00 0000", "2x2 000.0F0.000 " + "0" * 16, "1x1 g0.00 0000")
        self.bad("1x1 00.00 a000", "1x1 00.00 aaaa", "1x1 00.00 ....", "1x1 -0.00 0000")
        self.bad("1x1 00.00 -000", "1x1 00.00 +000", "1x1 0_.00 0000", "1x1 00.00 0_00")
        self.same(read_code("2x2 000.0f0.000 " + "0" * 16)[2], tuple((1, 1, k) for k in range(4)))

    def test_leads_of_the_frame(self):
        for width, height in ((1, 1), (2, 3), (9, 9)):
            for name in rim_of(width, height):
                self.bad(code_by_hand(plan_of(width, height, [name])))
                self.bad(code_by_hand(plan_of(width, height, [name, (0, 0, 1)])))

    def test_leads_off_the_board(self):
        for name in ((2, 1, 0), (2, 0, 1), (0, 2, 1), (1, 2, 2), (0, 0, 3), (0, 1, 3), (1, 2, 3)):
            self.bad(code_by_hand(plan_of(2, 2, [name])))

    def test_one_over_another(self):
        for width, height in ((1, 1), (3, 2)):
            for x in range(width):
                for y in range(height):
                    self.bad(code_by_hand(plan_of(width, height, [(x, y, 1), (x + 1, y, 3)])))

    def test_panes_of_two_colours_or_of_a_colour_and_none(self):
        self.bad("1x1 00.00 0001", "1x1 00.00 1110", "1x1 00.00 1112", "1x1 20.00 1121")
        self.bad("1x1 20.00 1120", "1x1 20.00 2112", "1x1 08.00 1122", "2x1 000.000 11112222")
        self.same(read_code("2x1 040.000 11112222")[3], (1, 1, 1, 1, 2, 2, 2, 2))
        for plan in [*BY_HAND, plan_of(9, 9, [(4, 0, 2)])]:
            plan = with_glass(plan, COLOURS)
            for quarter in range(0, len(plan[3]), 7):
                for other in (0, 1 + plan[3][quarter] % 9):
                    glass = plan[3][:quarter] + (other,) + plan[3][quarter + 1:]
                    self.bad(code_by_hand((*plan[:3], glass)))

    def test_a_sign_put_in(self):
        for text in (HALVES, "2x1 248.000 11223443"):
            for at in range(len(text) + 1):
                self.looked_at(text[:at] + sign + text[at:] for sign in SIGNS + "\n")

    def test_a_sign_left_out(self):
        for text in (HALVES, "2x1 248.000 11223443", code(with_glass(NESTED, COLOURS))):
            for at in range(len(text)):
                self.looked_at([text[:at] + text[at + 1:]])

    def test_a_sign_changed(self):
        for text in (HALVES, "2x1 248.000 11223443", "1x2 00.12.00 00000000"):
            for at in range(len(text)):
                self.looked_at(text[:at] + sign + text[at + 1:] for sign in SIGNS + "\n")
        text = code(with_glass(mixed(3, 3, 40, 5), COLOURS, 5))
        for at in range(len(text)):
            self.looked_at(text[:at] + sign + text[at + 1:] for sign in "0123456789abcdef. x")

    def test_words_exchanged_and_doubled(self):
        size, rows, colours = HALVES.split(" ")
        self.bad(f"{rows} {size} {colours}", f"{size} {colours} {rows}", HALVES + HALVES)
        self.bad(f"{size} {rows} {rows}", f"{size} {size} {colours}", HALVES + " " + HALVES)

    def test_very_long_texts(self):
        self.bad("0" * 100000, " " * 100000, "." * 100000, "9x9 " + "f" * 50000 + " 0")
        self.bad("9x9 " + ".".join(["0" * 10] * 10) + " " + "0" * 50000, "1x1" * 30000)

    def test_what_was_read_stands_for_all_small_plans(self):
        for width, height in SIZES[:3]:
            for figures in range(256):
                rows = f"{figures:02x}".ljust(width + 1, "0")
                below = ".".join(["0" * (width + 1)] * height)
                self.looked_at([f"{width}x{height} {rows}.{below} " + "0" * (4 * width * height)])


if __name__ == "__main__":
    unittest.main()
