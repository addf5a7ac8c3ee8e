"""leadlight.plans: plans, their quarters and their leads."""

import unittest

from helper import (
    BAD_SIDES, GREAT, SIZES, VERY_GREAT, Refusals,
    cell_of, good_plans, plan_of, rim_of, some_leads, within_of,
)
from leadlight.errors import BadQuarter, BadSize
from leadlight.plans import bare, free_leads, is_plan, leads_of, place_of


def free_by_hand(width, height, within):
    cells = {cell_of(name) for name in within} - {None}
    left = set(within_of(width, height)) - set(within)
    return sorted(name for name in left if cell_of(name) not in cells)


class Bare(Refusals):
    def test_all_sizes(self):
        for width, height in SIZES:
            told = (width, height, (), (0,) * (4 * width * height))
            self.assertEqual(bare(width, height), told)
            self.assertEqual(bare(height=height, width=width), told)
            self.assertTrue(is_plan(told))

    def test_it_is_made_of_tuples(self):
        told = bare(2, 1)
        self.assertEqual(told, (2, 1, (), (0, 0, 0, 0, 0, 0, 0, 0)))
        self.assertEqual([type(told), type(told[2]), type(told[3])], [tuple, tuple, tuple])

    def test_bad_sizes_in_either_place(self):
        for side in BAD_SIDES:
            for good in (1, 5, 9):
                self.refused(BadSize, bare, side, good)
                self.refused(BadSize, bare, good, side)
                self.refused(BadSize, bare, width=side, height=good)
                self.refused(BadSize, bare, width=good, height=side)
            self.refused(BadSize, bare, side, side)


class PlaceOf(Refusals):
    def test_each_quarter(self):
        for width, height in SIZES:
            plan = bare(width, height)
            quarter = 0
            for y in range(height):
                for x in range(width):
                    for part in range(4):
                        self.assertEqual(place_of(plan, quarter), (x, y, part))
                        self.assertEqual(place_of(plan=plan, quarter=quarter), (x, y, part))
                        quarter += 1

    def test_written_out(self):
        plan = bare(3, 2)
        self.assertEqual(place_of(plan, 0), (0, 0, 0))
        self.assertEqual(place_of(plan, 7), (1, 0, 3))
        self.assertEqual(place_of(plan, 12), (0, 1, 0))
        self.assertEqual(place_of(plan, 23), (2, 1, 3))
        self.assertIs(type(place_of(plan, 23)), tuple)

    def test_bad_quarters(self):
        for width, height in SIZES:
            plan = bare(width, height)
            beyond = 4 * width * height
            for quarter in (-1, -4, -beyond, beyond, beyond + 1) + VERY_GREAT:
                self.refused(BadQuarter, place_of, plan, quarter)
                self.refused(BadQuarter, place_of, plan=plan, quarter=quarter)


class LeadsOf(unittest.TestCase):
    def test_the_frame_and_those_within(self):
        for plan in good_plans():
            width, height, within, glass = plan
            told = sorted(rim_of(width, height) + list(within))
            self.assertEqual(leads_of(plan), told)
            self.assertEqual(leads_of(plan=plan), told)

    def test_written_out(self):
        plan = (2, 1, ((0, 0, 1), (1, 0, 2), (2, 0, 3)), (0,) * 8)
        self.assertEqual(
            leads_of(plan),
            [
                (0, 0, 0), (0, 0, 1), (0, 0, 2), (0, 1, 0),
                (1, 0, 0), (1, 0, 2), (1, 1, 0), (2, 0, 2), (2, 0, 3),
            ],
        )
        self.assertIs(type(leads_of(plan)), list)

    def test_a_told_list_is_a_new_one(self):
        plan = plan_of(3, 2, some_leads(3, 2, 2))
        kept = leads_of(plan)
        told = leads_of(plan)
        told.clear()
        self.assertEqual(leads_of(plan), kept)
        leads_of(plan).append((0, 0, 0))
        self.assertEqual(leads_of(plan), kept)


class FreeLeads(unittest.TestCase):
    def test_neither_there_nor_over_a_slant(self):
        for plan in good_plans():
            width, height, within, glass = plan
            told = free_by_hand(width, height, within)
            self.assertEqual(free_leads(plan), told)
            self.assertEqual(free_leads(plan=plan), told)

    def test_written_out(self):
        self.assertEqual(free_leads(bare(1, 1)), [(0, 0, 1), (1, 0, 3)])
        self.assertEqual(free_leads(plan_of(1, 1, [(0, 0, 1)])), [])
        self.assertEqual(free_leads(plan_of(1, 1, [(1, 0, 3)])), [])
        self.assertEqual(
            free_leads(bare(2, 1)), [(0, 0, 1), (1, 0, 1), (1, 0, 2), (1, 0, 3), (2, 0, 3)]
        )
        self.assertEqual(free_leads(plan_of(2, 1, [(1, 0, 3)])), [(1, 0, 1), (1, 0, 2), (2, 0, 3)])
        self.assertEqual(free_leads(plan_of(2, 1, [(1, 0, 1), (1, 0, 2)])), [(0, 0, 1), (1, 0, 3)])
        self.assertIs(type(free_leads(bare(1, 1))), list)

    def test_each_makes_a_plan_with_it_and_no_other_does(self):
        for width, height in ((1, 1), (2, 3), (3, 2), (4, 4)):
            for every in (1, 2, 3, 7):
                plan = plan_of(width, height, some_leads(width, height, every))
                free = free_leads(plan)
                for name in within_of(width, height) + rim_of(width, height):
                    more = plan_of(width, height, list(plan[2]) + [name])
                    self.assertIs(is_plan(more), name in free)

    def test_a_told_list_is_a_new_one(self):
        plan = plan_of(3, 2, some_leads(3, 2, 3))
        kept = free_leads(plan)
        told = free_leads(plan)
        told.clear()
        self.assertEqual(free_leads(plan), kept)
        free_leads(plan).append((0, 0, 0))
        self.assertEqual(free_leads(plan), kept)


class IsPlan(unittest.TestCase):
    def yes(self, plan):
        self.assertIs(is_plan(plan), True)
        self.assertIs(is_plan(plan=plan), True)

    def no(self, plan):
        self.assertIs(is_plan(plan), False)
        self.assertIs(is_plan(plan=plan), False)

    def test_good_plans(self):
        for plan in good_plans():
            self.yes(plan)

    def test_each_lead_within_alone(self):
        for width, height in ((1, 1), (1, 4), (4, 1), (3, 2), (9, 9)):
            for name in within_of(width, height):
                self.yes(plan_of(width, height, [name]))

    def test_sizes_out_of_bounds(self):
        for side in (0, -1, -9, 10, 11):
            for good in (1, 9):
                self.no((side, good, (), (0,) * max(0, 4 * side * good)))
                self.no((good, side, (), (0,) * max(0, 4 * side * good)))
        self.no((-1, -1, (), (0,) * 4))
        self.no((-2, -3, (), (0,) * 24))

    def test_very_great_sizes(self):
        for side in (GREAT, -GREAT):
            self.no((side, 1, (), (0,) * 4))
            self.no((1, side, (), (0,) * 4))
            self.no((side, side, (), ()))

    def test_leads_out_of_order(self):
        self.yes(plan_of(2, 2, [(0, 0, 1), (0, 1, 0), (1, 0, 2)]))
        glass = (0,) * 16
        self.no((2, 2, ((0, 1, 0), (0, 0, 1), (1, 0, 2)), glass))
        self.no((2, 2, ((0, 0, 1), (1, 0, 2), (0, 1, 0)), glass))
        self.no((2, 2, ((1, 0, 2), (0, 1, 0), (0, 0, 1)), glass))
        self.no((2, 2, ((0, 1, 1), (0, 1, 0)), glass))

    def test_a_lead_twice(self):
        for name in ((0, 0, 1), (0, 1, 0), (1, 0, 2), (2, 1, 3)):
            self.no(plan_of(2, 2, [name, name]))
        self.no(plan_of(2, 2, [(0, 0, 1), (0, 1, 0), (0, 1, 0), (1, 0, 2)]))

    def test_leads_of_the_frame(self):
        for width, height in ((1, 1), (2, 3), (9, 9)):
            for name in rim_of(width, height):
                self.no(plan_of(width, height, [name]))
                self.no(plan_of(width, height, [name, (0, 0, 1)]))

    def test_leads_off_the_board(self):
        off = [
            (2, 1, 0), (-1, 1, 0), (0, 3, 0), (0, -1, 0), (3, 1, 0),
            (2, 0, 1), (0, 2, 1), (-1, 0, 1), (0, -1, 1), (2, 2, 1),
            (1, 2, 2), (1, -1, 2), (3, 0, 2), (-1, 0, 2),
            (0, 0, 3), (0, 1, 3), (1, 2, 3), (3, 0, 3), (1, -1, 3),
            (GREAT, 1, 0), (1, -GREAT, 2), (-GREAT, GREAT, 1),
        ]
        for name in off:
            with self.subTest(name=name):
                self.no(plan_of(2, 2, [name]))
                self.no(plan_of(2, 2, [name, (1, 1, 0)]))

    def test_one_over_another(self):
        for width, height in ((1, 1), (2, 3), (9, 9)):
            for x in range(width):
                for y in range(height):
                    self.no(plan_of(width, height, [(x, y, 1), (x + 1, y, 3)]))

    def test_slants_side_by_side_are_not_over_one_another(self):
        self.yes(plan_of(2, 1, [(0, 0, 1), (2, 0, 3)]))
        self.yes(plan_of(2, 1, [(1, 0, 1), (1, 0, 3)]))
        self.yes(plan_of(1, 2, [(0, 0, 1), (1, 1, 3)]))

    def test_turns_that_name_no_lead(self):
        for turn in (-1, -3, -8, 4, 5, 6, 7, 8, 9, GREAT, -GREAT):
            self.no(plan_of(2, 2, [(1, 1, turn)]))
            self.no(plan_of(2, 2, [(1, 1, turn), (1, 1, 0)]))

    def test_too_few_and_too_many_quarters(self):
        for width, height in ((1, 1), (2, 3), (9, 9)):
            for more in (-4, -1, 1, 4):
                self.no((width, height, (), (0,) * (4 * width * height + more)))
        self.no((1, 1, (), ()))

    def test_colours_are_not_looked_at(self):
        self.yes((1, 1, (), (1, 1, 1, 1)))
        self.yes((1, 1, (), (0, 1, 2, 3)))
        self.yes((1, 1, (), (10, -1, GREAT, -GREAT)))
        self.yes((2, 1, ((0, 0, 1), (1, 0, 2)), (9, 9, 0, 0, 77, 77, 77, -5)))


if __name__ == "__main__":
    unittest.main()
