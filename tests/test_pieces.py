"""leadlight.pieces: points that hang together by leads."""

import unittest

from helper import (
    BY_HAND, CROSS, DIAMOND, MOVES, NESTED, SIZES, VERY_GREAT, Raster, Refusals,
    drawn, good_plans, mixed_plans, plan_of,
)
from leadlight.borders import borders, walk
from leadlight.errors import BadPoint
from leadlight.panes import panes
from leadlight.pieces import degree, free_pieces, odd_points, pieces, points_of
from leadlight.plans import bare, leads_of

# Free pieces in a pane that isn't pane 0, and one that begins with a lead right and up.
APART = drawn(
    "+-+-+-+-+-+-+",
    "|   |       |",
    "+ . + . + . +",
    "|   |  /    |",
    "+ . + + . . +",
    "|   |  \\    |",
    "+ . + . + . +",
    "|   |       |",
    "+ . + + . + +",
    "|   | |   | |",
    "+ . + + . + +",
    "|   |       |",
    "+-+-+-+-+-+-+",
)


def ends_of(name):
    x, y, turn = name
    return ((x, y), (x + MOVES[turn][0], y + MOVES[turn][1]))


def meeting(plan):
    """For each point of the board how many leads meet there."""
    found = {(x, y): 0 for x in range(plan[0] + 1) for y in range(plan[1] + 1)}
    for name in Raster(plan).leads:
        for point in ends_of(name):
            found[point] += 1
    return found


def pieces_by_hand(plan):
    """Pieces grown together lead by lead, the frame's first."""
    groups = []
    for name in Raster(plan).leads:
        ends = set(ends_of(name))
        apart = [group for group in groups if not group & ends]
        groups = apart + [ends.union(*[group for group in groups if group & ends])]
    return sorted((sorted(group) for group in groups), key=lambda row: ((0, 0) not in row, row[0]))


class Degree(Refusals):
    def test_written_out(self):
        plan = bare(2, 2)
        self.same([degree(plan, x, 0) for x in (0, 1, 2)], [2, 2, 2])
        self.same(degree(plan, 1, 1), 0)
        self.same(degree(DIAMOND, 0, 0), 2)
        self.same(degree(DIAMOND, 1, 0), 4)
        self.same(degree(CROSS, 3, 2), 4)
        self.same(degree(CROSS, 1, 0), 3)
        self.same(degree(CROSS, 1, 1), 1)

    def test_all_eight(self):
        names = [(1, 1, 0), (1, 1, 1), (1, 1, 2), (1, 1, 3), (0, 1, 0), (0, 0, 1), (1, 0, 2), (2, 0, 3)]
        for many in range(9):
            self.same(degree(plan_of(2, 2, names[:many]), 1, 1), many)

    def test_each_point(self):
        for plan in list(mixed_plans())[::3]:
            for (x, y), many in meeting(plan).items():
                self.same(degree(plan, x, y), many)
                self.same(degree(y=y, x=x, plan=plan), many)

    def test_bad_points(self):
        for plan in [bare(1, 1), bare(9, 9), bare(9, 1), *BY_HAND]:
            width, height = plan[0], plan[1]
            for wrong in (-1, -2, 10, 11) + VERY_GREAT:
                self.refused(BadPoint, degree, plan, wrong, 0)
                self.refused(BadPoint, degree, plan, 0, wrong)
                self.refused(BadPoint, degree, plan, wrong, wrong)
            self.refused(BadPoint, degree, plan, width + 1, height)
            self.refused(BadPoint, degree, plan, width, height + 1)
            self.refused(BadPoint, degree, y=height + 1, x=0, plan=plan)


class Points(Refusals):
    def test_bare_boards(self):
        for width, height in SIZES:
            rim = [
                (x, y) for x in range(width + 1) for y in range(height + 1)
                if x in (0, width) or y in (0, height)
            ]
            self.same(points_of(bare(width, height)), rim)
            self.same(pieces(bare(width, height)), [rim])
            self.same(free_pieces(bare(width, height)), [])
            self.same(odd_points(bare(width, height)), [])

    def test_points_with_leads(self):
        for plan in list(good_plans()) + list(mixed_plans()):
            found = meeting(plan)
            self.same(points_of(plan), sorted(point for point in found if found[point]))
            self.same(odd_points(plan), sorted(point for point in found if found[point] % 2))

    def test_written_out(self):
        self.same(odd_points(CROSS), [(0, 4), (1, 0), (1, 1), (2, 1), (2, 3), (4, 1), (4, 3), (5, 4)])
        self.same(odd_points(NESTED), [(2, 2), (3, 2)])
        self.same(odd_points(DIAMOND), [])

    def test_arguments_by_name(self):
        self.same(points_of(plan=NESTED), points_of(NESTED))
        self.same(odd_points(plan=NESTED), [(2, 2), (3, 2)])


class Pieces(Refusals):
    def test_written_out(self):
        frame, ring, dot = pieces(NESTED)
        self.same(len(frame), 20)
        self.same(ring, [
            (1, 1), (1, 2), (1, 3), (1, 4), (2, 1), (2, 4),
            (3, 1), (3, 4), (4, 1), (4, 2), (4, 3), (4, 4),
        ])
        self.same(dot, [(2, 2), (3, 2)])
        self.same(pieces(DIAMOND), [points_of(DIAMOND)])
        self.same(pieces(CROSS)[1:], [[(2, 1), (2, 3), (3, 2), (4, 1), (4, 3)]])

    def test_lead_by_lead(self):
        for plan in list(good_plans()) + list(mixed_plans()):
            self.same(pieces(plan), pieces_by_hand(plan))

    def test_slants_that_pass_by_do_not_hang_together(self):
        plan = plan_of(4, 3, [(1, 1, 1), (2, 1, 1)])
        self.same(pieces(plan)[1:], [[(1, 1), (2, 2)], [(2, 1), (3, 2)]])

    def test_panes_leads_points_and_pieces_agree(self):
        for plan in list(good_plans()) + list(mixed_plans()):
            more = len(leads_of(plan)) - len(points_of(plan)) + len(pieces(plan))
            self.assertEqual(len(panes(plan)), more)

    def test_arguments_by_name(self):
        self.same(pieces(plan=NESTED), pieces(NESTED))


class FreePieces(Refusals):
    def test_written_out(self):
        self.same(free_pieces(NESTED), [((1, 1), 0), ((2, 2), 24)])
        self.same(free_pieces(CROSS), [((2, 1), 0)])
        self.same(free_pieces(DIAMOND), [])
        self.same(free_pieces(APART), [((3, 2), 8), ((3, 4), 8), ((5, 4), 8)])
        self.same(free_pieces(plan=NESTED), [((1, 1), 0), ((2, 2), 24)])

    def test_by_each_turn_from_the_least_point(self):
        for name in ((2, 1, 0), (2, 1, 1), (2, 1, 2), (3, 1, 3)):
            plan = plan_of(4, 3, [(1, 0, 3), name])
            self.same(free_pieces(plan), [(min(ends_of(name)), 1)])

    def test_the_walk_all_round_has_the_pane_to_the_left(self):
        for plan in mixed_plans():
            raster = Raster(plan)
            free = dict(free_pieces(plan))
            self.assertEqual(list(free), [row[0] for row in pieces_by_hand(plan)[1:]])
            for point, pane in list(free.items())[:8]:
                sides = [side for side in raster.both_ways() if side[:2] == point]
                around = [walk(plan, *side) for side in sides if raster.left(*side) == pane]
                within = borders(plan, pane)[1:]
                self.assertTrue(any(min(row) == one[0] for row in around for one in within))

    def test_as_many_as_borders_within(self):
        for plan in list(mixed_plans())[::4]:
            stands = [pane for point, pane in free_pieces(plan)]
            for pane in panes(plan):
                self.assertEqual(len(borders(plan, pane)) - 1, stands.count(pane))


class ToldAnew(Refusals):
    def test_lists(self):
        for plan in (NESTED, CROSS, APART):
            for asked in (points_of, pieces, free_pieces, odd_points):
                self.told_anew(asked, plan)


if __name__ == "__main__":
    unittest.main()
