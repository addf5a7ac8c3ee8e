"""leadlight.ways: how far panes are, ways between them, and walls."""

import unittest

from helper import (
    BY_HAND, CROSS, DIAMOND, NESTED, VERY_GREAT, Raster, Refusals,
    great_plans, mixed_plans, plan_of,
)
from leadlight.errors import NoPane
from leadlight.plans import bare
from leadlight.ways import far, walls, way

ROW = plan_of(4, 1, [(1, 0, 2), (2, 0, 2), (3, 0, 2)])


def far_by_hand(near, pane):
    """How far all panes are, made less until it is as little as can be."""
    away = {one: len(near) for one in near}
    away[pane] = 0
    changed = True
    while changed:
        changed = False
        for one in near:
            least = min([away[one]] + [away[beyond] + 1 for beyond, name in near[one]])
            changed = changed or least < away[one]
            away[one] = least
    return away


def walls_by_hand(raster, away, many):
    """For each number of leads all those between panes so far away and one further."""
    rows = [[] for k in range(many)]
    for name in raster.leads:
        one, other = raster.sides(name)
        if -1 not in (one, other):
            for k in range(many):
                if {away[one], away[other]} == {k, k + 1}:
                    rows[k].append(name)
    return rows


def pairs_of(names):
    """Some pairs of panes, some panes with themselves among them."""
    names = sorted(set(names))
    some = names[:: max(1, len(names) // 4)] + names[-1:]
    return [(one, other) for one in some[::2] for other in some]


def plans():
    return list(mixed_plans())[::2] + list(great_plans())


class Far(Refusals):
    def test_written_out(self):
        self.same(far(bare(3, 3), 0), [(0, 0)])
        self.same(far(ROW, 0), [(0, 0), (4, 1), (8, 2), (12, 3)])
        self.same(far(ROW, 8), [(0, 2), (4, 1), (8, 0), (12, 1)])
        self.same(far(DIAMOND, 4), [(0, 2), (1, 1), (4, 0), (10, 2), (13, 2)])
        self.same(far(NESTED, 24), [(0, 1), (24, 0)])
        self.same(far(pane=80, plan=CROSS), [(0, 1), (80, 0)])

    def test_as_little_as_can_be(self):
        for plan in plans():
            raster = Raster(plan)
            for pane in sorted(set(raster.names))[::20]:
                away = far_by_hand(raster.near(), pane)
                self.same(far(plan, pane), sorted(away.items()))


class Way(Refusals):
    def test_written_out(self):
        self.same(way(ROW, 0, 12), [(1, 0, 2), (2, 0, 2), (3, 0, 2)])
        self.same(way(ROW, 12, 0), [(3, 0, 2), (2, 0, 2), (1, 0, 2)])
        self.same(way(ROW, 4, 8), [(2, 0, 2)])
        self.same(way(DIAMOND, 0, 13), [(1, 0, 3), (2, 1, 3)])
        self.same(way(other=13, one=0, plan=DIAMOND), [(1, 0, 3), (2, 1, 3)])

    def test_from_a_pane_to_itself(self):
        for plan in [bare(1, 1), ROW, *BY_HAND]:
            for pane in sorted(set(Raster(plan).names)):
                self.same(way(plan, pane, pane), [])
                self.same(walls(plan, pane, pane), [])

    def goes(self, raster, names, one, other):
        """That a way crosses each lead from the pane at its one side to that at its other."""
        here = one
        for name in names:
            beside = list(raster.sides(name))
            self.assertIn(here, beside)
            self.assertNotIn(-1, beside)
            beside.remove(here)
            here = beside[0]
        self.assertEqual(here, other)

    def test_ways_are_as_long_as_far_tells(self):
        for plan in plans():
            raster = Raster(plan)
            near = raster.near()
            for one, other in pairs_of(raster.names):
                names = way(plan, one, other)
                self.assertIs(type(names), list)
                self.goes(raster, names, one, other)
                self.assertEqual(len(names), far_by_hand(near, one)[other])
                self.assertEqual(len(names), dict(far(plan, one))[other])


class Walls(Refusals):
    def test_written_out(self):
        self.same(walls(ROW, 0, 12), [[(1, 0, 2)], [(2, 0, 2)], [(3, 0, 2)]])
        self.same(walls(ROW, 12, 4), [[(3, 0, 2)], [(2, 0, 2)]])
        self.same(walls(ROW, 8, 4), [[(2, 0, 2), (3, 0, 2)]])
        self.same(walls(DIAMOND, 0, 4), [[(1, 0, 3)], [(0, 1, 1), (1, 0, 1), (2, 1, 3)]])
        self.same(walls(other=80, one=0, plan=CROSS), [[(x, 4, 0) for x in range(5)]])

    def test_all_leads_that_point_11_names(self):
        for plan in plans():
            raster = Raster(plan)
            near = raster.near()
            for one, other in pairs_of(raster.names)[::2]:
                away = far_by_hand(near, one)
                rows = walls(plan, one, other)
                self.same(rows, walls_by_hand(raster, away, away[other]))

    def test_as_many_as_the_way_is_long_and_each_crossed_once(self):
        for plan in plans():
            for one, other in pairs_of(Raster(plan).names)[1::2]:
                rows = walls(plan, one, other)
                names = way(plan, one, other)
                self.assertEqual(len(rows), len(names))
                for row, name in zip(rows, names):
                    self.assertIn(name, row)
                    self.assertEqual(row, sorted(set(row)))
                leads = [name for row in rows for name in row]
                self.assertEqual(len(leads), len(set(leads)))


class Refused(Refusals):
    def test_no_pane(self):
        for plan in [bare(1, 1), ROW, *BY_HAND]:
            many = 4 * plan[0] * plan[1]
            good = set(Raster(plan).names)
            wrong = [pane for pane in range(-2, many + 2) if pane not in good]
            for pane in wrong + [-many, *VERY_GREAT]:
                self.refused(NoPane, far, plan, pane)
                for asked in (way, walls):
                    self.refused(NoPane, asked, plan, pane, 0)
                    self.refused(NoPane, asked, plan, 0, pane)
                    self.refused(NoPane, asked, plan, pane, pane)
                    self.refused(NoPane, asked, other=pane, one=0, plan=plan)
            self.refused(NoPane, far, pane=-1, plan=plan)


class ToldAnew(Refusals):
    def test_lists(self):
        for plan in BY_HAND:
            last = max(Raster(plan).names)
            self.told_anew(far, plan, 0)
            self.told_anew(way, plan, 0, last)
            self.told_anew(walls, plan, 0, last)


if __name__ == "__main__":
    unittest.main()
