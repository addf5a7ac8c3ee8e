"""leadlight.borders: what lies beside leads, walks, turnings and borders."""

import unittest

from helper import (
    BAD_TURNS, BY_HAND, CROSS, DIAMOND, MOVES, NESTED, OPPOSITE, SIZES, VERY_GREAT,
    Raster, Refusals, mixed_plans, plan_of,
)
from leadlight.borders import borders, left, sides, turning, walk
from leadlight.errors import BadPoint, BadTurn, NoLead, NoPane
from leadlight.panes import panes, size
from leadlight.plans import bare

HALVES = plan_of(1, 1, [(0, 0, 1)])
ASKED_AT_SIDES = (left, walk, lambda plan, x, y, turn: sides(plan, (x, y, turn)))


def points_off(width, height):
    """Points that are not on a board, by x, by y, and by both."""
    found = [(-1, 0), (0, -1), (width + 1, 0), (0, height + 1), (width + 1, height + 1), (-1, -1)]
    found += [(great, 0) for great in VERY_GREAT]
    return found + [(0, great) for great in VERY_GREAT]


def walk_by_hand(there, side):
    """A closed walk by the words of point [7]."""
    row = [side]
    while True:
        x, y, turn = row[-1]
        x, y = x + MOVES[turn][0], y + MOVES[turn][1]
        choices = [(x, y, (turn + more) % 8) for more in (5, 6, 7, 8, 9, 10, 11, 12)]
        behind = [one for one in choices if one in there][0]
        if behind == side:
            return row
        row.append(behind)


def turning_by_hand(row):
    total = 0
    for x, y, turn in row:
        next_x, next_y = x + MOVES[turn][0], y + MOVES[turn][1]
        total += x * next_y - y * next_x
    return total


def borders_by_hand(raster, pane):
    """All walks with a pane to the left, the outer one found by its turning."""
    there = set(raster.both_ways())
    waiting = {side for side in there if raster.left(*side) == pane}
    rows = []
    while waiting:
        row = walk_by_hand(there, min(waiting))
        waiting -= set(row)
        rows.append(row)
    outer = [row for row in rows if turning_by_hand(row) < 0]
    return outer + sorted(row for row in rows if row not in outer)


class Left(Refusals):
    def test_one_cell(self):
        plan = bare(1, 1)
        within = ((0, 0, 2), (0, 1, 0), (1, 1, 6), (1, 0, 4))
        outside = ((0, 0, 0), (1, 0, 2), (1, 1, 4), (0, 1, 6))
        self.same([left(plan, *side) for side in within], [0, 0, 0, 0])
        self.same([left(plan, *side) for side in outside], [-1, -1, -1, -1])

    def test_by_each_turn(self):
        plan = plan_of(2, 2, [(1, 0, 2), (0, 1, 0), (1, 1, 0), (1, 1, 2), (0, 0, 1), (2, 1, 3)])
        self.same(left(plan, 0, 1, 0), 2)
        self.same(left(plan, 1, 1, 4), 8)
        self.same(left(plan, 0, 0, 1), 0)
        self.same(left(plan, 1, 1, 5), 2)
        self.same(left(plan, 1, 0, 2), 4)
        self.same(left(plan, 1, 1, 6), 0)
        self.same(left(plan, 2, 1, 3), 13)
        self.same(left(plan, 1, 2, 7), 12)

    def test_both_ways_along_each_lead(self):
        for plan in mixed_plans():
            raster = Raster(plan)
            for side in list(raster.both_ways())[::9]:
                self.same(left(plan, *side), raster.left(*side))

    def test_the_frame_has_no_pane_outside(self):
        for width, height in SIZES:
            plan = bare(width, height)
            for x, y, turn in walk(plan, 0, 0, 0)[::3]:
                self.same(left(plan, x, y, turn), -1)
                back_x, back_y = x + MOVES[turn][0], y + MOVES[turn][1]
                self.same(left(plan, back_x, back_y, OPPOSITE[turn]), 0)

    def test_arguments_by_name(self):
        self.same(left(turn=1, y=0, x=0, plan=HALVES), 0)
        self.same(left(turn=5, y=1, x=1, plan=HALVES), 2)


class Sides(Refusals):
    def test_written_out(self):
        self.same(sides(HALVES, (0, 0, 1)), (0, 2))
        self.same(sides(plan_of(1, 1, [(1, 0, 3)]), (1, 0, 3)), (1, 0))
        self.same(sides(bare(1, 1), (0, 0, 0)), (-1, 0))
        self.same(sides(bare(1, 1), (0, 0, 2)), (0, -1))
        self.same(sides(bare(1, 1), (0, 1, 0)), (0, -1))
        self.same(sides(bare(1, 1), (1, 0, 2)), (-1, 0))
        self.same(sides(plan_of(2, 1, [(1, 0, 2)]), (1, 0, 2)), (4, 0))
        self.same(sides(plan_of(1, 2, [(0, 1, 0)]), (0, 1, 0)), (0, 4))

    def test_leads_with_one_pane_at_both_sides(self):
        self.same(sides(CROSS, (1, 0, 2)), (0, 0))
        self.same(sides(CROSS, (2, 1, 1)), (0, 0))
        self.same(sides(NESTED, (2, 2, 0)), (24, 24))
        self.same(sides(NESTED, (1, 1, 0)), (0, 24))

    def test_each_lead(self):
        for plan in mixed_plans():
            raster = Raster(plan)
            for name in raster.leads[::7]:
                self.same(sides(plan, name), raster.sides(name))
        for name in Raster(CROSS).leads:
            self.same(sides(name=name, plan=CROSS), Raster(CROSS).sides(name))


class Walk(Refusals):
    def test_written_out(self):
        plan = bare(1, 1)
        self.same(walk(plan, 0, 0, 0), [(0, 0, 0), (1, 0, 2), (1, 1, 4), (0, 1, 6)])
        self.same(walk(plan, 0, 0, 2), [(0, 0, 2), (0, 1, 0), (1, 1, 6), (1, 0, 4)])
        self.same(walk(plan, 1, 1, 6), [(1, 1, 6), (1, 0, 4), (0, 0, 2), (0, 1, 0)])
        self.same(walk(HALVES, 0, 0, 1), [(0, 0, 1), (1, 1, 6), (1, 0, 4)])
        self.same(walk(HALVES, 1, 1, 5), [(1, 1, 5), (0, 0, 2), (0, 1, 0)])

    def test_to_the_end_of_a_lead_and_back(self):
        self.same(walk(NESTED, 2, 2, 0), [(2, 2, 0), (3, 2, 4)])
        self.same(walk(NESTED, 3, 2, 4), [(3, 2, 4), (2, 2, 0)])
        round_cross = [
            (2, 1, 1), (3, 2, 7), (4, 1, 3), (3, 2, 1), (4, 3, 5), (3, 2, 3), (2, 3, 7), (3, 2, 5),
        ]
        for at, (x, y, turn) in enumerate(round_cross):
            self.same(walk(CROSS, x, y, turn), round_cross[at:] + round_cross[:at])
        hanging = walk(CROSS, 0, 0, 2)
        at = hanging.index((1, 0, 2))
        self.same(hanging[at - 1:at + 3], [(2, 0, 4), (1, 0, 2), (1, 1, 6), (1, 0, 4)])

    def test_by_the_words_of_the_document(self):
        for plan in mixed_plans():
            raster = Raster(plan)
            there = set(raster.both_ways())
            for side in list(raster.both_ways())[::7]:
                row = walk(plan, *side)
                self.same(row, walk_by_hand(there, side))
                self.assertEqual(len(row), len(set(row)))
                self.assertEqual({raster.left(*one) for one in row}, {raster.left(*side)})

    def test_outside_along_the_frame(self):
        for width, height in SIZES:
            above = [(x, 0, 0) for x in range(width)]
            at_right = [(width, y, 2) for y in range(height)]
            below = [(x, height, 4) for x in range(width, 0, -1)]
            at_left = [(0, y, 6) for y in range(height, 0, -1)]
            for plan in (bare(width, height), plan_of(width, height, [(0, 0, 1)])):
                row = walk(plan, 0, 0, 0)
                self.same(row, above + at_right + below + at_left)
                self.same(turning(row), 2 * width * height)

    def test_arguments_by_name(self):
        self.same(walk(turn=2, y=0, x=0, plan=HALVES), [(0, 0, 2), (0, 1, 0), (1, 1, 5)])


class RefusedSides(Refusals):
    def test_bad_points(self):
        for plan in [bare(1, 1), bare(9, 9), *BY_HAND]:
            for asked in ASKED_AT_SIDES:
                for x, y in points_off(plan[0], plan[1]):
                    for turn in (0, 3, 4, 7):
                        self.refused(BadPoint, asked, plan, x, y, turn)

    def test_bad_turns(self):
        for plan in [bare(1, 1), bare(9, 9), *BY_HAND]:
            for asked in ASKED_AT_SIDES:
                for turn in BAD_TURNS:
                    self.refused(BadTurn, asked, plan, 0, 0, turn)
                    self.refused(BadTurn, asked, plan, plan[0], plan[1], turn)

    def test_no_lead_within(self):
        for asked in ASKED_AT_SIDES:
            self.refused_at(0, NoLead, asked, bare(1, 1), 0, 0, 1)
            self.refused_at(0, NoLead, asked, bare(1, 1), 0, 1, 7)
            self.refused_at(0, NoLead, asked, HALVES, 1, 0, 3)
            self.refused_at(0, NoLead, asked, NESTED, 2, 3, 0)
            self.refused_at(0, NoLead, asked, NESTED, 2, 2, 2)

    def test_no_lead_where_one_leaves_the_board(self):
        for width, height in ((1, 1), (4, 2), (9, 9)):
            plan = bare(width, height)
            for asked in ASKED_AT_SIDES:
                for turn in (3, 4, 5, 6, 7):
                    self.refused_at(0, NoLead, asked, plan, 0, 0, turn)
                for turn in (0, 1, 2, 3, 7):
                    self.refused_at(0, NoLead, asked, plan, width, height, turn)

    def test_each_side_that_has_no_lead(self):
        for plan in BY_HAND:
            there = set(Raster(plan).both_ways())
            for x in range(plan[0] + 1):
                for y in range(plan[1] + 1):
                    for turn in range(8):
                        if (x, y, turn) not in there:
                            for asked in ASKED_AT_SIDES:
                                self.refused_at(0, NoLead, asked, plan, x, y, turn)

    def test_the_point_ahead_of_the_turn(self):
        for asked in ASKED_AT_SIDES:
            for x, y in points_off(1, 1):
                for turn in BAD_TURNS:
                    self.refused(BadPoint, asked, bare(1, 1), x, y, turn)

    def test_by_name(self):
        for asked in (left, walk):
            self.refused(BadPoint, asked, turn=8, x=0, y=3, plan=HALVES)
            self.refused(BadTurn, asked, turn=8, x=0, y=1, plan=HALVES)
            self.refused_at(0, NoLead, asked, turn=7, x=0, y=1, plan=HALVES)
        self.refused_at(0, NoLead, sides, name=(1, 0, 3), plan=HALVES)


class Turning(Refusals):
    def test_written_out(self):
        self.same(turning([(0, 0, 0), (1, 0, 2), (1, 1, 4), (0, 1, 6)]), 2)
        self.same(turning([(0, 0, 2), (0, 1, 0), (1, 1, 6), (1, 0, 4)]), -2)
        self.same(turning([(0, 0, 1), (1, 1, 6), (1, 0, 4)]), -1)
        self.same(turning([(2, 2, 0), (3, 2, 4)]), 0)
        self.same(turning(row=[(0, 0, 1), (1, 1, 6), (1, 0, 4)]), -1)

    def test_where_a_walk_begins_does_not_matter(self):
        for plan in BY_HAND:
            for side in Raster(plan).both_ways():
                row = walk(plan, *side)
                self.same(turning(row), turning_by_hand(row))
                self.same(turning(row[1:] + row[:1]), turning(row))

    def test_the_row_is_left_as_it_was(self):
        row = walk(CROSS, 2, 1, 1)
        kept = list(row)
        turning(row)
        self.same(row, kept)


class Borders(Refusals):
    def test_bare_boards(self):
        for width, height in SIZES:
            down = [(0, y, 2) for y in range(height)]
            right = [(x, height, 0) for x in range(width)]
            up = [(width, y, 6) for y in range(height, 0, -1)]
            home = [(x, 0, 4) for x in range(width, 0, -1)]
            self.same(borders(bare(width, height), 0), [down + right + up + home])

    def test_written_out(self):
        self.same(borders(HALVES, 0), [[(0, 0, 1), (1, 1, 6), (1, 0, 4)]])
        self.same(borders(HALVES, 2), [[(0, 0, 2), (0, 1, 0), (1, 1, 5)]])
        self.same(borders(DIAMOND, 1), [[(0, 1, 1), (1, 2, 7), (2, 1, 5), (1, 0, 3)]])
        self.same(borders(DIAMOND, 0), [[(0, 0, 2), (0, 1, 7), (1, 0, 4)]])

    def test_round_what_stands_within(self):
        outer, inner = borders(NESTED, 0)
        self.same([len(outer), len(inner)], [20, 12])
        self.same([outer[0], inner[0], inner[-1]], [(0, 0, 2), (1, 1, 0), (1, 2, 6)])
        self.same([turning(outer), turning(inner)], [-50, 18])
        outer, inner = borders(NESTED, 24)
        self.same(outer[:2], [(1, 1, 2), (1, 2, 2)])
        self.same(inner, [(2, 2, 0), (3, 2, 4)])
        self.same([turning(outer), turning(inner)], [-18, 0])

    def test_several_within_rise_by_their_first_sides(self):
        triangle = [(4, 1, 0), (5, 1, 2), (4, 1, 1)]
        plan = plan_of(6, 4, [(1, 3, 0), (1, 1, 1), *triangle])
        self.same(
            borders(plan, 0)[1:],
            [
                [(1, 1, 1), (2, 2, 5)],
                [(1, 3, 0), (2, 3, 4)],
                [(4, 1, 0), (5, 1, 2), (5, 2, 5)],
            ],
        )

    def test_by_the_words_of_the_document(self):
        for plan in mixed_plans():
            raster = Raster(plan)
            for pane in sorted(set(raster.names))[:12]:
                self.same(borders(plan, pane), borders_by_hand(raster, pane))
        self.same(borders(pane=24, plan=NESTED), borders_by_hand(Raster(NESTED), 24))

    def test_just_the_outer_one_turns_below_nought(self):
        for plan in mixed_plans():
            for pane in panes(plan)[-12:]:
                outer, *within = borders(plan, pane)
                self.assertLess(turning(outer), 0)
                self.assertTrue(all(turning(row) >= 0 for row in within))

    def test_sizes_by_turnings(self):
        for plan in mixed_plans():
            for pane in panes(plan)[::3]:
                total = sum(turning(row) for row in borders(plan, pane))
                self.assertEqual(size(plan, pane), -2 * total)

    def test_each_side_is_in_just_one_border(self):
        for plan in list(mixed_plans())[::5]:
            raster = Raster(plan)
            gone = [side for pane in panes(plan) for row in borders(plan, pane) for side in row]
            within = [side for side in raster.both_ways() if raster.left(*side) != -1]
            self.assertEqual(sorted(gone), sorted(within))

    def test_no_pane(self):
        for plan in [bare(1, 1), *BY_HAND]:
            many = 4 * plan[0] * plan[1]
            good = set(Raster(plan).names)
            wrong = [pane for pane in range(-many - 1, many + 2) if pane not in good]
            for pane in wrong + list(VERY_GREAT):
                self.refused(NoPane, borders, plan, pane)
            self.refused(NoPane, borders, pane=-1, plan=plan)


class ToldAnew(Refusals):
    def test_lists(self):
        for plan in BY_HAND:
            self.told_anew(walk, plan, 0, 0, 0)
            self.told_anew(borders, plan, 0)


if __name__ == "__main__":
    unittest.main()
