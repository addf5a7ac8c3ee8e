"""leadlight.hues: neighbours, odd inner points and two hues."""

import unittest

from helper import (
    BY_HAND, CROSS, DIAMOND, NESTED, SIZES, Raster, Refusals,
    good_plans, great_plans, mixed_plans, plan_of, within_of,
)
from leadlight.hues import hues, neighbours, odd_inner
from leadlight.plans import bare

HALVES = plan_of(1, 1, [(0, 0, 1)])
QUARTERED = plan_of(2, 2, [(0, 1, 0), (1, 0, 2), (1, 1, 0), (1, 1, 2)])


def all_plans():
    return list(good_plans()) + list(mixed_plans()) + list(great_plans())


def inner_by_hand(plan):
    """The odd inner points, counted lead by lead."""
    many = {}
    for x, y, turn in plan[2]:
        right = {0: 1, 1: 1, 2: 0, 3: -1}[turn]
        for point in ((x, y), (x + right, y + (turn > 0))):
            many[point] = many.get(point, 0) + 1
    inner = [(x, y) for x, y in many if x not in (0, plan[0]) and y not in (0, plan[1])]
    return sorted(point for point in inner if many[point] % 2)


def even_plans():
    """Plans for which two hues do: leads just between shaded cells and others."""
    for plan in mixed_plans():
        shaded = {name[:2] for name in plan[2]}
        yield plan_of(plan[0], plan[1], [
            (x, y, turn)
            for x, y, turn in within_of(plan[0], plan[1])
            if turn in (0, 2)
            and ((x, y) in shaded) != ((x - (turn == 2), y - (turn == 0)) in shaded)
        ])


class OddInner(Refusals):
    def test_written_out(self):
        self.same(odd_inner(bare(9, 9)), [])
        self.same(odd_inner(CROSS), [(1, 1), (2, 1), (2, 3), (4, 1), (4, 3)])
        self.same(odd_inner(NESTED), [(2, 2), (3, 2)])
        self.same(odd_inner(DIAMOND), [])
        self.same(odd_inner(plan=NESTED), [(2, 2), (3, 2)])

    def test_points_on_the_frame_are_not_told(self):
        self.same(odd_inner(HALVES), [])
        self.same(odd_inner(plan_of(3, 1, [(1, 0, 2), (2, 0, 2)])), [])
        self.same(odd_inner(plan_of(2, 2, [(1, 0, 2)])), [(1, 1)])

    def test_counted_lead_by_lead(self):
        for plan in all_plans():
            self.same(odd_inner(plan), inner_by_hand(plan))


class Neighbours(Refusals):
    def test_written_out(self):
        self.same(neighbours(bare(3, 2)), {0: []})
        self.same(neighbours(HALVES), {0: [(2, (0, 0, 1))], 2: [(0, (0, 0, 1))]})
        self.same(neighbours(plan=HALVES), {0: [(2, (0, 0, 1))], 2: [(0, (0, 0, 1))]})
        self.same(neighbours(QUARTERED), {
            0: [(8, (0, 1, 0)), (4, (1, 0, 2))],
            4: [(0, (1, 0, 2)), (12, (1, 1, 0))],
            8: [(0, (0, 1, 0)), (12, (1, 1, 2))],
            12: [(4, (1, 1, 0)), (8, (1, 1, 2))],
        })

    def test_one_pair_for_each_lead_between(self):
        self.same(
            neighbours(plan_of(2, 2, [(0, 1, 0), (1, 1, 0)])),
            {0: [(8, (0, 1, 0)), (8, (1, 1, 0))], 8: [(0, (0, 1, 0)), (0, (1, 1, 0))]},
        )

    def test_no_lead_with_one_pane_at_both_sides(self):
        told = neighbours(NESTED)
        self.same([len(told[0]), len(told[24])], [12, 12])
        self.assertNotIn((24, (2, 2, 0)), told[24])
        self.same(list(neighbours(CROSS)), [0, 80])
        self.same(neighbours(CROSS)[80], [(0, (x, 4, 0)) for x in range(5)])

    def test_by_both_sides_of_each_lead(self):
        for plan in all_plans():
            self.same(neighbours(plan), Raster(plan).near())


class Hues(Refusals):
    def test_written_out(self):
        self.same(hues(bare(1, 1)), [(0, 0)])
        self.same(hues(HALVES), [(0, 0), (2, 1)])
        self.same(hues(plan=HALVES), [(0, 0), (2, 1)])
        self.same(hues(QUARTERED), [(0, 0), (4, 1), (8, 1), (12, 0)])
        self.same(hues(DIAMOND), [(0, 0), (1, 1), (4, 0), (10, 0), (13, 0)])

    def test_none_do(self):
        self.assertIsNone(hues(NESTED))
        self.assertIsNone(hues(CROSS))
        self.assertIsNone(hues(plan_of(2, 2, [(1, 0, 2)])))
        self.assertIsNone(hues(plan_of(2, 2, [(0, 1, 0), (1, 0, 2), (1, 1, 0)])))

    def test_a_free_ring_is_no_bar(self):
        ring = plan_of(5, 5, [name for name in NESTED[2] if name != (2, 2, 0)])
        self.same(hues(ring), [(0, 0), (24, 1)])

    def test_bare_boards(self):
        for width, height in SIZES:
            self.same(hues(bare(width, height)), [(0, 0)])

    def do(self, plan):
        """That the hues told for a plan are 0 or 1, unlike at all leads within, 0 for pane 0."""
        told = hues(plan)
        raster = Raster(plan)
        self.assertIs(type(told), list)
        self.assertEqual({type(pair) for pair in told}, {tuple})
        self.assertEqual([pane for pane, hue in told], sorted(set(raster.names)))
        self.assertEqual(told[0], (0, 0))
        hue_of = dict(told)
        for name in plan[2]:
            one, other = raster.sides(name)
            self.assertEqual({hue_of[one], hue_of[other]}, {0, 1})

    def test_just_where_no_inner_point_is_odd(self):
        for plan in all_plans():
            if inner_by_hand(plan):
                self.assertIsNone(hues(plan))
            else:
                self.do(plan)

    def test_round_any_cells(self):
        for plan in even_plans():
            self.assertEqual(inner_by_hand(plan), [])
            self.do(plan)

    def test_great_boards_in_two_hues(self):
        self.assertGreater(len([plan for plan in great_plans() if hues(plan)]), 15)


class ToldAnew(Refusals):
    def test_lists_and_dicts(self):
        for plan in [HALVES, QUARTERED, *BY_HAND]:
            self.told_anew(odd_inner, plan)
            self.told_anew(neighbours, plan)
            if hues(plan) is not None:
                self.told_anew(hues, plan)


if __name__ == "__main__":
    unittest.main()
