"""leadlight.panes: which quarters hang together."""

import unittest

from helper import (
    BY_HAND, CROSS, DIAMOND, NESTED, SIZES, VERY_GREAT, Raster, Refusals,
    good_plans, mixed_plans, plan_of, within_of,
)
from leadlight.errors import BadQuarter, NoPane
from leadlight.panes import names, pane_of, panes, quarters, size
from leadlight.plans import bare


def full(width, height, slant=None):
    """All leads along sides, and in each cell this slant, if one is told."""
    kept = [0, 2] if slant is None else [0, 2, slant]
    return plan_of(width, height, [name for name in within_of(width, height) if name[2] in kept])


class Names(Refusals):
    def test_bare_boards_are_one_pane(self):
        for width, height in SIZES:
            plan = bare(width, height)
            many = 4 * width * height
            self.same(names(plan), [0] * many)
            self.same(panes(plan), [0])
            self.same(quarters(plan, 0), list(range(many)))
            self.same(size(plan, 0), many)

    def test_one_cell_by_either_slant(self):
        self.same(names(plan_of(1, 1, [(0, 0, 1)])), [0, 0, 2, 2])
        self.same(names(plan_of(1, 1, [(1, 0, 3)])), [0, 1, 1, 0])

    def test_two_cells_by_each_lead(self):
        self.same(names(plan_of(2, 1, [(1, 0, 2)])), [0, 0, 0, 0, 4, 4, 4, 4])
        self.same(names(plan_of(1, 2, [(0, 1, 0)])), [0, 0, 0, 0, 4, 4, 4, 4])
        self.same(names(plan_of(2, 1, [(1, 0, 1)])), [0, 0, 0, 0, 4, 4, 0, 0])
        self.same(names(plan_of(2, 1, [(2, 0, 3)])), [0, 0, 0, 0, 0, 5, 5, 0])
        self.same(names(plan_of(1, 2, [(0, 0, 1)])), [0, 0, 2, 2, 2, 2, 2, 2])

    def test_a_lead_that_parts_nothing(self):
        self.same(names(plan_of(2, 2, [(1, 0, 2)])), [0] * 16)
        self.same(names(plan_of(2, 2, [(0, 0, 1)])), [0] * 16)
        self.same(names(plan_of(3, 3, [(1, 1, 1), (1, 1, 0), (1, 1, 2)])), [0] * 36)

    def test_written_out(self):
        self.same(names(DIAMOND), [0, 1, 1, 0, 4, 4, 1, 1, 1, 1, 10, 10, 1, 13, 13, 1])
        self.same(panes(DIAMOND), [0, 1, 4, 10, 13])
        self.same(quarters(DIAMOND, 1), [1, 2, 6, 7, 8, 9, 12, 15])
        self.same(panes(NESTED), [0, 24])
        self.same([size(NESTED, pane) for pane in (0, 24)], [64, 36])
        self.same(panes(CROSS), [0, 80])
        self.same([size(CROSS, pane) for pane in (0, 80)], [80, 20])

    def test_each_cell_alone(self):
        for width, height in SIZES:
            plan = full(width, height)
            self.same(names(plan), [4 * (at // 4) for at in range(4 * width * height)])

    def test_each_cell_in_halves(self):
        for width, height in SIZES:
            cells = range(width * height)
            by_one = [4 * cell + part for cell in cells for part in (0, 0, 2, 2)]
            by_three = [4 * cell + part for cell in cells for part in (0, 1, 1, 0)]
            self.same(names(full(width, height, 1)), by_one)
            self.same(names(full(width, height, 3)), by_three)

    def test_as_filled_on_finer_squares(self):
        for plan in list(good_plans()) + list(mixed_plans()):
            right = Raster(plan).names
            self.same(names(plan), right)
            self.same(names(plan=plan), right)


class OfOnePane(Refusals):
    def test_panes_and_quarters(self):
        for plan in mixed_plans():
            right = Raster(plan).names
            self.same(panes(plan), sorted(set(right)))
            self.same(panes(plan=plan), sorted(set(right)))
            for pane in sorted(set(right))[::3]:
                has = [quarter for quarter in range(len(right)) if right[quarter] == pane]
                self.same(quarters(plan, pane), has)

    def test_sizes_come_to_the_number_of_quarters(self):
        for plan in mixed_plans():
            right = Raster(plan).names
            sizes = {pane: size(plan, pane) for pane in panes(plan)}
            self.same(sizes, {pane: right.count(pane) for pane in sorted(set(right))})
            self.assertEqual(sum(sizes.values()), 4 * plan[0] * plan[1])

    def test_arguments_by_name(self):
        self.same(quarters(pane=10, plan=DIAMOND), [10, 11])
        self.same(size(pane=10, plan=DIAMOND), 2)

    def test_other_numbers_name_no_pane(self):
        for plan in [bare(1, 1), bare(9, 9), *BY_HAND]:
            many = 4 * plan[0] * plan[1]
            good = set(Raster(plan).names)
            wrong = [pane for pane in range(-5, many + 5) if pane not in good] + [-many]
            for pane in wrong + list(VERY_GREAT):
                self.refused(NoPane, quarters, plan, pane)
                self.refused(NoPane, size, plan, pane)
            self.refused(NoPane, quarters, plan=plan, pane=-1)
            self.refused(NoPane, size, plan=plan, pane=-1)


class PaneOf(Refusals):
    def test_each_quarter(self):
        for plan in [bare(1, 1), bare(9, 9), *BY_HAND]:
            for quarter, pane in enumerate(Raster(plan).names):
                self.same(pane_of(plan, quarter), pane)
                self.same(pane_of(quarter=quarter, plan=plan), pane)

    def test_last_quarters(self):
        for width, height in SIZES:
            many = 4 * width * height
            self.same(pane_of(full(width, height, 1), many - 1), many - 2)

    def test_bad_quarters(self):
        for plan in [bare(1, 1), bare(2, 3), bare(9, 9), *BY_HAND]:
            many = 4 * plan[0] * plan[1]
            for quarter in (-1, -2, -many, -many - 1, many, many + 1) + VERY_GREAT:
                self.refused(BadQuarter, pane_of, plan, quarter)
                self.refused(BadQuarter, pane_of, plan=plan, quarter=quarter)


class ToldAnew(Refusals):
    def test_lists(self):
        for plan in BY_HAND:
            self.told_anew(names, plan)
            self.told_anew(panes, plan)
            self.told_anew(quarters, plan, 0)

    def test_glass_does_not_matter(self):
        for plan in BY_HAND:
            glazed = plan[:3] + (tuple(pane % 9 + 1 for pane in names(plan)),)
            self.same(names(glazed), names(plan))


if __name__ == "__main__":
    unittest.main()
