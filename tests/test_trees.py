"""leadlight.trees: the leads to pull, idle leads, and leads between two panes."""

import unittest

from helper import (
    BY_HAND, CROSS, DIAMOND, NESTED, SIZES, VERY_GREAT, Raster, Refusals,
    drawn, good_plans, great_plans, mixed_plans, plan_of,
)
from leadlight.errors import NoPane
from leadlight.plans import bare
from leadlight.trees import between, idle, to_pull

HALVES = plan_of(1, 1, [(0, 0, 1)])


def all_plans():
    return list(good_plans()) + list(mixed_plans()) + list(great_plans())


def without(plan, names):
    return plan_of(plan[0], plan[1], set(plan[2]) - set(names))


def pulled_by_hand(plan):
    """The leads to pull, each looked at when those told ahead of it are out."""
    told, left = [], Raster(plan)
    for name in plan[2]:
        one, other = left.sides(name)
        if one != other:
            told.append(name)
            left = Raster(without(plan, told))
    return told


class ToPull(Refusals):
    def test_written_out(self):
        self.same(to_pull(bare(2, 2)), [])
        self.same(to_pull(HALVES), [(0, 0, 1)])
        self.same(to_pull(NESTED), [(1, 1, 0)])
        self.same(to_pull(CROSS), [(0, 4, 0)])
        self.same(to_pull(DIAMOND), [(0, 1, 1), (1, 0, 1), (1, 0, 3), (2, 1, 3)])
        self.same(to_pull(plan=NESTED), [(1, 1, 0)])

    def test_a_lead_that_parts_nothing_any_more(self):
        plan = plan_of(2, 2, [(0, 1, 0), (1, 0, 2), (1, 1, 0), (1, 1, 2)])
        self.same(to_pull(plan), [(0, 1, 0), (1, 0, 2), (1, 1, 0)])

    def test_one_fewer_than_panes_and_all_is_one_then(self):
        for plan in all_plans():
            told = to_pull(plan)
            self.assertIs(type(told), list)
            self.assertEqual(len(told), len(set(Raster(plan).names)) - 1)
            self.assertEqual(told, sorted(set(told) & set(plan[2])))
            self.assertEqual(set(Raster(without(plan, told)).names), {0})

    def test_each_parts_panes_when_those_ahead_of_it_are_out(self):
        for plan in list(mixed_plans())[::2] + list(great_plans())[::3]:
            self.same(to_pull(plan), pulled_by_hand(plan))


class Idle(Refusals):
    def test_written_out(self):
        self.same(idle(bare(3, 3)), [])
        self.same(idle(HALVES), [])
        self.same(idle(NESTED), [(2, 2, 0)])
        self.same(idle(CROSS), [(1, 0, 2), (2, 1, 1), (3, 2, 1), (3, 2, 3), (4, 1, 3)])
        self.same(idle(plan=NESTED), [(2, 2, 0)])

    def test_leads_between_rings_are_idle(self):
        tied = drawn(
            "+-+-+-+-+-+",
            "|         |",
            "+ +-+ +-+ +",
            "| | | | | |",
            "+ +-+-+-+ +",
            "|         |",
            "+-+-+-+-+-+",
        )
        self.same(idle(tied), [(2, 2, 0)])

    def test_both_sides_of_each_lead(self):
        for plan in all_plans():
            raster = Raster(plan)
            right = [name for name in plan[2] if len(set(raster.sides(name))) == 1]
            self.same(idle(plan), right)


class Between(Refusals):
    def test_written_out(self):
        self.same(between(HALVES, 0, 2), [(0, 0, 1)])
        self.same(between(HALVES, 2, 0), [(0, 0, 1)])
        self.same(between(CROSS, 80, 0), [(x, 4, 0) for x in range(5)])
        self.same(between(DIAMOND, 0, 4), [])
        self.same(between(DIAMOND, 1, 10), [(0, 1, 1)])
        self.same(len(between(NESTED, 0, 24)), 12)
        self.same(between(other=0, one=2, plan=HALVES), [(0, 0, 1)])

    def test_none_where_they_are_one(self):
        for plan in [bare(1, 1), HALVES, *BY_HAND]:
            for pane in sorted(set(Raster(plan).names)):
                self.same(between(plan, pane, pane), [])

    def test_both_ways_round(self):
        for plan in list(mixed_plans())[::3] + list(great_plans())[::3]:
            raster = Raster(plan)
            names = sorted(set(raster.names))
            for one in names[::15]:
                for other in names[:: max(1, len(names) // 6)]:
                    right = [name for name in plan[2] if set(raster.sides(name)) == {one, other}]
                    if one == other:
                        right = []
                    self.same(between(plan, one, other), right)
                    self.same(between(plan, other, one), right)

    def test_every_lead_is_idle_or_between_two(self):
        for plan in list(mixed_plans())[::3]:
            names = sorted(set(Raster(plan).names))
            # With more panes than this there are too many pairs of them to ask for.
            if len(names) <= 25:
                found = idle(plan)
                for at, one in enumerate(names):
                    for other in names[at + 1:]:
                        found += between(plan, one, other)
                self.assertEqual(sorted(found), list(plan[2]))

    def test_no_pane(self):
        for plan in [bare(1, 1), HALVES, *BY_HAND]:
            many = 4 * plan[0] * plan[1]
            good = set(Raster(plan).names)
            wrong = [pane for pane in range(-2, many + 2) if pane not in good]
            for pane in wrong + [-many, *VERY_GREAT]:
                self.refused(NoPane, between, plan, pane, 0)
                self.refused(NoPane, between, plan, 0, pane)
                self.refused(NoPane, between, plan, pane, pane)
                self.refused(NoPane, between, other=pane, one=0, plan=plan)


class ToldAnew(Refusals):
    def test_lists(self):
        for plan in BY_HAND:
            last = max(Raster(plan).names)
            self.told_anew(to_pull, plan)
            self.told_anew(idle, plan)
            self.told_anew(between, plan, 0, last)


class BareBoards(Refusals):
    def test_nothing_to_tell(self):
        for width, height in SIZES:
            plan = bare(width, height)
            self.same([to_pull(plan), idle(plan), between(plan, 0, 0)], [[], [], []])


if __name__ == "__main__":
    unittest.main()
