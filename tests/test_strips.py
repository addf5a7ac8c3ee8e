"""leadlight.strips: strips that lay all leads, and the fewest of them."""

import unittest

from helper import (
    CROSS, DIAMOND, MOVES, NESTED, SIZES, Refusals,
    drawn, good_plans, mixed, mixed_plans, plan_of, rim_of,
)
from leadlight.pieces import odd_points, pieces
from leadlight.plans import bare
from leadlight.strips import fewest, strips


def gone_along(strip):
    """The leads that a strip goes along, by their names, each as often as it does."""
    names = []
    for (x, y), (next_x, next_y) in zip(strip, strip[1:]):
        turn = {move: turn for turn, move in MOVES.items()}[next_x - x, next_y - y]
        names.append((x, y, turn) if turn < 4 else (next_x, next_y, turn - 4))
    return names


class Strips(Refusals):
    def lays_all(self, plan):
        rows = strips(plan)
        names = [name for strip in rows for name in gone_along(strip)]
        self.assertEqual(sorted(names), sorted(rim_of(plan[0], plan[1]) + list(plan[2])))
        self.assertEqual(len(rows), fewest(plan))
        self.assertIs(type(rows), list)
        for strip in rows:
            self.assertIs(type(strip), list)
            self.assertGreaterEqual(len(strip), 2)
            self.assertEqual({type(point) for point in strip}, {tuple})

    def test_bare_boards_take_one(self):
        for width, height in SIZES:
            self.lays_all(bare(width, height))
            (strip,) = strips(bare(width, height))
            self.assertEqual(len(strip), 2 * (width + height) + 1)
            self.assertEqual(strip[0], strip[-1])

    def test_plans_of_all_kinds(self):
        for plan in list(good_plans()) + list(mixed_plans()):
            self.lays_all(plan)

    def test_many_plans_of_great_boards(self):
        for seed in range(40):
            for share in (20, 50, 100):
                self.lays_all(mixed(9, 9, share, seed))

    def test_rounds_that_hang_at_one_point_only(self):
        self.lays_all(drawn(
            "+-+-+-+-+",
            "|       |",
            "+ +-+ . +",
            "| | |   |",
            "+ +-+-+ +",
            "|   | | |",
            "+ . +-+ +",
            "|      \\|",
            "+-+-+-+-+",
        ))
        self.lays_all(plan_of(3, 3, [(0, 0, 1), (1, 1, 0), (1, 1, 2), (2, 1, 2), (1, 2, 0)]))

    def test_all_leads_of_one_point(self):
        names = [(2, 2, 0), (2, 2, 1), (2, 2, 2), (2, 2, 3), (1, 2, 0), (1, 1, 1), (2, 1, 2), (3, 1, 3)]
        for many in range(1, 9):
            plan = plan_of(4, 4, names[:many])
            self.lays_all(plan)
            self.assertEqual(fewest(plan), 1 + (many + 1) // 2)

    def test_arguments_by_name(self):
        self.assertEqual(sorted(strips(plan=NESTED)), sorted(strips(NESTED)))


class Fewest(Refusals):
    def test_written_out(self):
        self.same(fewest(bare(1, 1)), 1)
        self.same(fewest(plan_of(1, 1, [(0, 0, 1)])), 1)
        self.same(fewest(plan_of(2, 1, [(0, 0, 1), (1, 0, 2)])), 1)
        self.same(fewest(plan_of(2, 2, [(0, 1, 0), (1, 0, 2), (1, 1, 0), (1, 1, 2)])), 2)
        self.same(fewest(NESTED), 3)
        self.same(fewest(DIAMOND), 1)
        self.same(fewest(CROSS), 4)
        self.same(fewest(plan=CROSS), 4)

    def test_half_the_odd_points_of_each_piece(self):
        for plan in list(good_plans()) + list(mixed_plans()):
            odd = set(odd_points(plan))
            halves = [len(odd & set(row)) // 2 for row in pieces(plan)]
            self.same(fewest(plan), sum(max(1, half) for half in halves))


class ToldAnew(Refusals):
    def test_strips(self):
        # Which strips are told isn't promised, but that changing them changes nothing is.
        for plan in (NESTED, CROSS, DIAMOND):
            self.told_anew(strips, plan)


if __name__ == "__main__":
    unittest.main()
