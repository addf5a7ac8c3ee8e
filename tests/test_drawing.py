"""leadlight.drawing: plans drawn, and read from drawings."""

import unittest

from helper import (
    BY_HAND, CROSS, DIAMOND, MOVES, NESTED, SIGNS, SIZES, Refusals,
    glassy_plans, good_plans, plan_of, rim_of, within_of,
)
from leadlight.drawing import drawing, read_drawing
from leadlight.errors import BadText
from leadlight.plans import bare


def rows_by_hand(width, height, within):
    """Each sign by what stands at its place, as the document tells it."""
    there = set(within) | set(rim_of(width, height))
    met = set()
    for x, y, turn in there:
        right, down = MOVES[turn]
        met |= {(x, y), (x + right, y + down)}
    rows = []
    for at in range(2 * height + 1):
        row = ""
        for place in range(2 * width + 1):
            x, y = place // 2, at // 2
            if at % 2 == 0 and place % 2 == 0:
                row += "+" if (x, y) in met else "."
            elif at % 2 == 0:
                row += "-" if (x, y, 0) in there else " "
            elif place % 2 == 0:
                row += "|" if (x, y, 2) in there else " "
            elif (x, y, 1) in there:
                row += "\\"
            else:
                row += "/" if (x + 1, y, 3) in there else " "
        rows.append(row)
    return rows


def drawn_by_hand(plan):
    return "\n".join(rows_by_hand(*plan[:3]))


def without_glass(plan):
    return plan_of(*plan[:3])


def fault_in(text):
    """The row that has to be told for a text, None where it is a drawing."""
    rows = text.split("\n")
    if len(rows) not in (3, 5, 7, 9, 11, 13, 15, 17, 19):
        return len(rows)
    for at, row in enumerate(rows):
        if len(row) != len(rows[0]) or len(row) not in (3, 5, 7, 9, 11, 13, 15, 17, 19):
            return at
    width, height = len(rows[0]) // 2, len(rows) // 2
    found = []
    for x, y, turn in within_of(width, height):
        right, down = MOVES[turn]
        if rows[2 * y + down][2 * x + right] == "-\\|/"[turn]:
            found.append((x, y, turn))
    right_rows = rows_by_hand(width, height, found)
    return next((at for at, row in enumerate(rows) if row != right_rows[at]), None)


class Drawing(Refusals):
    def test_written_out(self):
        self.same(drawing(bare(1, 1)), "+-+\n| |\n+-+")
        self.same(drawing(plan_of(1, 1, [(0, 0, 1)])), "+-+\n|\\|\n+-+")
        self.same(drawing(plan_of(1, 1, [(1, 0, 3)])), "+-+\n|/|\n+-+")
        self.same(drawing(bare(2, 2)), "+-+-+\n|   |\n+ . +\n|   |\n+-+-+")
        self.same(drawing(DIAMOND), "+-+-+\n|/ \\|\n+ . +\n|\\ /|\n+-+-+")
        self.same(
            drawing(plan=CROSS),
            "+-+-+-+-+-+\n"
            "| |       |\n"
            "+ + + . + +\n"
            "|    \\ /  |\n"
            "+ . . + . +\n"
            "|    / \\  |\n"
            "+ . + . + +\n"
            "|         |\n"
            "+-+-+-+-+-+\n"
            "|         |\n"
            "+-+-+-+-+-+",
        )

    def test_sign_by_sign(self):
        for plan in list(good_plans()) + list(glassy_plans()):
            self.same(drawing(plan), drawn_by_hand(plan))

    def test_each_lead_alone(self):
        for width, height in ((1, 1), (3, 2), (4, 4)):
            for name in within_of(width, height):
                plan = plan_of(width, height, [name])
                self.same(drawing(plan), drawn_by_hand(plan))
                self.same(read_drawing(drawing(plan)), plan)

    def test_glass_is_not_drawn(self):
        self.same(drawing((1, 1, (), (5,) * 4)), drawing(bare(1, 1)))


class ReadDrawing(Refusals):
    def test_written_out(self):
        self.same(read_drawing("+-+\n| |\n+-+"), bare(1, 1))
        self.same(read_drawing(text="+-+\n|/|\n+-+"), (1, 1, ((1, 0, 3),), (0, 0, 0, 0)))
        self.same(read_drawing("+-+-+\n|/ \\|\n+ . +\n|\\ /|\n+-+-+"), DIAMOND)

    def test_each_gives_the_plan_back_without_glass(self):
        for plan in list(good_plans()) + list(glassy_plans()):
            self.same(read_drawing(drawing(plan)), without_glass(plan))
            self.same(read_drawing(text=drawn_by_hand(plan)), without_glass(plan))


class BadDrawings(Refusals):
    def bad(self, at, *texts):
        for text in texts:
            with self.subTest(text=text):
                self.assertEqual(fault_in(text), at)
                self.refused_at(at, BadText, read_drawing, text)

    def looked_at(self, text):
        at = fault_in(text)
        if at is None:
            self.same(drawing(read_drawing(text)), text)
        else:
            with self.subTest(text=text):
                self.refused_at(at, BadText, read_drawing, text)

    def test_the_empty_text(self):
        self.bad(1, "")
        self.refused_at(1, BadText, read_drawing, text="")

    def test_the_number_of_rows(self):
        for many in (1, 2, 4, 6, 10, 18, 20, 21, 22, 23, 39):
            self.bad(many, "\n".join(["+-+"] * many), "\n" * (many - 1))
            self.bad(many, "\n".join(["+-+"] + ["| |"] * (many - 1)))
        self.bad(1, "+-+", " ", "+-+-+", "+" * 1000)
        self.bad(21, "\n".join((["+ +"] + ["| |"]) * 10 + ["+-+"]))

    def test_a_line_feed_behind_the_last_row(self):
        for plan in [bare(1, 1), bare(9, 9), *BY_HAND]:
            rows = 2 * plan[1] + 1
            self.bad(rows + 1, drawing(plan) + "\n", "\n" + drawing(plan))
        # Two of them make the number of rows odd again, and one of them is too short.
        self.bad(3, drawing(bare(1, 1)) + "\n\n")
        self.bad(0, "\n\n" + drawing(bare(1, 1)), "\n" + drawing(bare(1, 1)) + "\n")
        self.bad(21, drawing(bare(9, 9)) + "\n\n")

    def test_the_length_of_rows(self):
        for many in (0, 1, 2, 4, 6, 18, 20, 21, 23, 100):
            self.bad(0, "\n".join(["+" * many] * 3), "\n".join(["+" * many] * 19))
            self.bad(0, "\n".join(["+" * many, "| |", "+-+"]))
            self.bad(1, "\n".join(["+-+", "|" * many, "+-+"]))
            self.bad(2, "\n".join(["+-+", "| |", "+" * many]))
        self.bad(0, "\n\n")

    def test_rows_of_1_and_of_more_than_19_signs(self):
        self.bad(0, "+\n|\n+", "\n".join("+|+|+|+"))
        wide = ["+-" * 10 + "+", "|" + " " * 19 + "|", "+-" * 10 + "+"]
        self.bad(0, "\n".join(wide), "\n".join([wide[0], "| |", wide[0]]))

    def test_a_row_that_is_longer_or_shorter_than_the_first(self):
        for plan in [bare(1, 1), bare(2, 1), *BY_HAND, bare(9, 9)]:
            rows = drawing(plan).split("\n")
            for at in range(1, len(rows)):
                for row in (rows[at] + " ", rows[at][:-1], rows[at] + "-+", rows[at][:-2], ""):
                    self.bad(at, "\n".join(rows[:at] + [row] + rows[at + 1:]))
            self.bad(0, "\n".join([rows[0] + "-"] + rows[1:]))
            # Shorter by a cell, the first row of a board of one cell is too short by itself.
            self.bad(min(1, plan[0] - 1), "\n".join([rows[0][:-2]] + rows[1:]))

    def test_blanks_at_the_ends(self):
        rows = drawing(CROSS).split("\n")
        self.bad(0, "\n".join(" " + row for row in rows), "\n".join(row + " " for row in rows))
        self.bad(0, "\n".join(" " + row + " " for row in rows))
        self.bad(1, "\n".join(row.rstrip("|") for row in rows))

    def test_a_frame_with_a_gap(self):
        self.bad(0, "+ +\n| |\n+-+", ". .\n| |\n+-+", ".-+\n| |\n+-+", "   \n| |\n+-+")
        self.bad(1, "+-+\n  |\n+-+", "+-+\n|  \n+-+", "+-+\n   \n+-+")
        self.bad(2, "+-+\n| |\n+ +", "+-+\n| |\n+-.", "+-+\n| |\n   ")
        rows = drawing(bare(9, 9)).split("\n")
        for at, row in enumerate(rows):
            for place, sign in enumerate(row):
                if sign in "-|":
                    left = row[:place] + " " + row[place + 1:]
                    self.bad(at, "\n".join(rows[:at] + [left] + rows[at + 1:]))

    def test_points_exchanged(self):
        for plan in [bare(2, 2), *BY_HAND]:
            rows = drawing(plan).split("\n")
            for at in range(0, len(rows), 2):
                for place in range(0, len(rows[0]), 2):
                    other = {"+": ".", ".": "+"}[rows[at][place]]
                    row = rows[at][:place] + other + rows[at][place + 1:]
                    self.bad(at, "\n".join(rows[:at] + [row] + rows[at + 1:]))

    def test_signs_of_other_leads(self):
        self.bad(1, "+-+\n|-|\n+-+", "+-+\n|||\n+-+", "+-+\n|X|\n+-+", "+-+\n|+|\n+-+")
        self.bad(1, "+-+\n/ |\n+-+", "+-+\n| \\\n+-+", "+-+\n- |\n+-+", "+-+\n|.|\n+-+")
        self.bad(0, "+|+\n| |\n+-+", "+/+\n| |\n+-+", "+--\n| |\n+-+", "-|-\n- -\n-|-")
        self.bad(2, "+-+-+\n|   |\n+|+ +\n|   |\n+-+-+", "+-+-+\n|   |\n+\\. +\n|   |\n+-+-+")

    def test_two_slants_in_a_cell(self):
        for sign in "XxY*#":
            self.bad(1, f"+-+\n|{sign}|\n+-+")
        self.bad(1, "+-+\n|\\/|\n+-+", "+-+\n|\\/\n+-+")

    def test_a_lead_is_gone_and_its_ends_are_drawn(self):
        # No lead meets the point in the third row any more, so this row comes first.
        text = "+-+-+\n|   |\n+ + +\n|x  |\n+-+-+"
        self.bad(2, text, text.replace("x", " "))
        # Another lead meets it, so that only the row with the wrong sign isn't as drawn.
        self.bad(3, text.replace("|x  |", "|x \\|"), text.replace("|   |", "|\\  |"))

    def test_a_lead_further_down_changes_the_row_ahead_of_it(self):
        self.bad(2, "+-+-+\n|   |\n+ . +\n|  \\|\n+-+-+", "+-+-+\n|   |\n+ . +\n| | |\n+-+-+")
        self.bad(4, "+-+-+\n| | |\n+ + +\n|   |\n+ + +\n|   |\n+-+-+")

    def test_the_first_of_several_rows(self):
        self.bad(0, "+ +\n   \n+ +")
        self.bad(1, "+-+\n|-|\n+ +")
        rows = drawing(NESTED).split("\n")
        for at in range(len(rows)):
            for behind in range(at, len(rows)):
                spoilt = list(rows)
                for place in (at, behind):
                    spoilt[place] = "~" + rows[place][1:]
                self.bad(at, "\n".join(spoilt))

    def test_the_three_kinds_together(self):
        self.bad(4, "+-+\n| |\n+-\n+ +", "~\n~~\n~~~\n~~~~")
        self.bad(2, "~-~\n| |\n+-", "+ +\n~~~\n+---+", "...\n...\n..")
        self.bad(1, "+ +\n| \n~~~~~")
        self.bad(0, "+-\n| |\n+ +", "+-+-\n|  |\n+-+-")

    def test_each_sign_changed(self):
        for plan in (bare(1, 1), plan_of(2, 1, [(0, 0, 1), (1, 0, 2)]), DIAMOND):
            text = drawing(plan)
            for at in range(len(text)):
                for sign in SIGNS + "\n":
                    self.looked_at(text[:at] + sign + text[at + 1:])

    def test_leads_signs_changed_on_greater_boards(self):
        for plan in BY_HAND:
            text = drawing(plan)
            for at in range(len(text)):
                for sign in "+.-|\\/ ~\n":
                    self.looked_at(text[:at] + sign + text[at + 1:])
                self.looked_at(text[:at] + text[at + 1:])
                self.looked_at(text[:at] + text[at] + text[at:])

    def test_all_sizes(self):
        for width, height in SIZES:
            text = drawing(bare(width, height))
            self.looked_at(text)
            self.bad(2 * height, text[:-1] + "~")
            self.bad(0, "~" + text[1:])


if __name__ == "__main__":
    unittest.main()
