"""leadlight.mirrors: moved plans, least forms, plans that are alike."""

import unittest
from collections import Counter

from helper import (
    BAD_TURNS, BY_HAND, COLOURS, MOVES, SIZES, Refusals,
    drawn, glassy_plans, mixed, plan_of, with_glass,
)
from leadlight.errors import BadTurn
from leadlight.hues import hues
from leadlight.mirrors import alike, least_form, mirrored
from leadlight.panes import names, panes
from leadlight.pieces import pieces
from leadlight.plans import bare, is_plan
from leadlight.strips import fewest

# Leads of all four turns, and nothing in it that a move leaves as it was.
MARKED = drawn(
    "+-+-+-+",
    "|\\|   |",
    "+ + +-+",
    "|    /|",
    "+-+-+-+",
)

GLASSY = with_glass(MARKED, COLOURS, 3)


def moved_point(width, height, x, y, move):
    """A point of a board, and how wide and high it is then, by the document's words."""
    if move >= 4:
        x = width - x
    for _ in range(move % 4):
        x, y = height - y, x
        width, height = height, width
    return width, height, x, y


def middle_of(width, quarter):
    """A point in a quarter, in fourths of a cell."""
    cell, part = divmod(quarter, 4)
    right, down = ((2, 1), (3, 2), (2, 3), (1, 2))[part]
    return (4 * (cell % width) + right, 4 * (cell // width) + down)


def moved_by_hand(plan, move):
    """Moves both ends of each lead and a point of each quarter."""
    width, height, within, glass = plan
    far_width, far_height = moved_point(width, height, 0, 0, move)[:2]
    leads = []
    for x, y, turn in within:
        right, down = MOVES[turn]
        here = moved_point(width, height, x, y, move)[2:]
        there = moved_point(width, height, x + right, y + down, move)[2:]
        for one, other in ((here, there), (there, here)):
            step = (other[0] - one[0], other[1] - one[1])
            leads += [(*one, turn) for turn in range(4) if MOVES[turn] == step]
    colours = {}
    for quarter, colour in enumerate(glass):
        x, y = middle_of(width, quarter)
        colours[moved_point(4 * width, 4 * height, x, y, move)[2:]] = colour
    many = range(4 * far_width * far_height)
    told = tuple(colours[middle_of(far_width, quarter)] for quarter in many)
    return (far_width, far_height, tuple(sorted(leads)), told)


def some_plans():
    yield from list(glassy_plans())[::3]
    yield from (MARKED, GLASSY, *BY_HAND)


def counts(plan):
    """What no move changes."""
    sizes = sorted(Counter(names(plan)).values())
    many = [len(plan[2]), len(panes(plan)), len(pieces(plan)), fewest(plan)]
    return [many, hues(plan) is None, sizes, sorted(plan[3])]


class Mirrored(Refusals):
    def test_written_out(self):
        plan = (2, 1, ((0, 0, 1), (1, 0, 2)), (1, 1, 2, 2, 3, 3, 3, 3))
        self.same(mirrored(plan, 0), plan)
        self.same(
            mirrored(plan, 1), (1, 2, ((0, 1, 0), (1, 0, 3)), (2, 1, 1, 2, 3, 3, 3, 3))
        )
        self.same(
            mirrored(plan, 2), (2, 1, ((1, 0, 1), (1, 0, 2)), (3, 3, 3, 3, 2, 2, 1, 1))
        )
        self.same(
            mirrored(plan, 3), (1, 2, ((0, 1, 0), (1, 1, 3)), (3, 3, 3, 3, 1, 2, 2, 1))
        )
        self.same(
            mirrored(plan, 4), (2, 1, ((1, 0, 2), (2, 0, 3)), (3, 3, 3, 3, 1, 2, 2, 1))
        )
        self.same(
            mirrored(plan, 5), (1, 2, ((0, 1, 0), (0, 1, 1)), (3, 3, 3, 3, 1, 1, 2, 2))
        )
        self.same(
            mirrored(plan, 6), (2, 1, ((1, 0, 2), (1, 0, 3)), (2, 1, 1, 2, 3, 3, 3, 3))
        )
        self.same(
            mirrored(plan, 7), (1, 2, ((0, 0, 1), (0, 1, 0)), (2, 2, 1, 1, 3, 3, 3, 3))
        )

    def test_drawn(self):
        self.assertEqual({turn for x, y, turn in MARKED[2]}, {0, 1, 2, 3})
        self.same(
            mirrored(MARKED, 1),
            drawn("+-+-+", "|  /|", "+ +-+", "|   |", "+ + +", "|\\| |", "+-+-+"),
        )
        self.same(
            mirrored(MARKED, 2), drawn("+-+-+-+", "|/    |", "+-+ + +", "|   |\\|", "+-+-+-+")
        )
        self.same(
            mirrored(MARKED, 4), drawn("+-+-+-+", "|   |/|", "+-+ + +", "|\\    |", "+-+-+-+")
        )
        self.same(
            mirrored(MARKED, 6), drawn("+-+-+-+", "|    \\|", "+ + +-+", "|/|   |", "+-+-+-+")
        )

    def test_what_was_above_is_right_then(self):
        one = (1, 1, ((0, 0, 1),), (5, 5, 0, 0))
        self.same(mirrored(one, 1), (1, 1, ((1, 0, 3),), (0, 5, 5, 0)))
        self.same(mirrored(one, 4), (1, 1, ((1, 0, 3),), (5, 0, 0, 5)))
        self.same(mirrored(one, 5), (1, 1, ((0, 0, 1),), (5, 5, 0, 0)))

    def test_all_eight_on_boards_of_all_kinds(self):
        for plan in some_plans():
            for move in range(8):
                self.same(mirrored(plan, move), moved_by_hand(plan, move))
                self.same(mirrored(turn=move, plan=plan), moved_by_hand(plan, move))

    def test_bare_boards(self):
        for width, height in SIZES:
            for move in range(8):
                told = bare(height, width) if move % 2 else bare(width, height)
                self.same(mirrored(bare(width, height), move), told)

    def test_bad_turns(self):
        for plan in (bare(1, 1), bare(9, 9), MARKED, GLASSY):
            for turn in BAD_TURNS:
                self.refused(BadTurn, mirrored, plan, turn)
                self.refused(BadTurn, mirrored, turn=turn, plan=plan)

    def test_two_one_behind_the_other(self):
        for plan in list(some_plans())[::4] + [GLASSY]:
            for one in range(8):
                for other in range(8):
                    # Behind a mirroring, a turn to the right is one to the left ahead of it.
                    rest = other + one if other < 4 else other - one
                    flip = 4 * ((one >= 4) != (other >= 4))
                    told = mirrored(mirrored(plan, one), other)
                    self.same(told, mirrored(plan, flip + rest % 4))

    def test_a_move_and_the_one_that_takes_it_back(self):
        home = (0, 3, 2, 1, 4, 5, 6, 7)
        for plan in some_plans():
            for move in range(8):
                self.same(mirrored(mirrored(plan, move), home[move]), plan)

    def test_a_moved_plan_is_a_plan_with_as_many_of_all(self):
        for plan in some_plans():
            told = counts(plan)
            for move in range(8):
                moved = mirrored(plan, move)
                self.assertIs(is_plan(moved), True)
                self.assertEqual(counts(moved), told)

    def test_the_eight_of_a_marked_plan_are_unlike(self):
        self.assertEqual(len({mirrored(MARKED, move) for move in range(8)}), 8)
        self.assertEqual(len({mirrored(GLASSY, move) for move in range(8)}), 8)


class LeastForm(Refusals):
    def test_the_least_of_the_eight(self):
        for plan in some_plans():
            least = sorted(moved_by_hand(plan, move) for move in range(8))[0]
            self.same(least_form(plan), least)
            self.same(least_form(plan=plan), least)

    def test_written_out(self):
        self.same(least_form(bare(3, 2)), bare(2, 3))
        self.same(least_form(bare(2, 3)), bare(2, 3))
        self.same(least_form(plan_of(1, 1, [(1, 0, 3)])), plan_of(1, 1, [(0, 0, 1)]))
        self.same(
            least_form((1, 1, ((0, 0, 1),), (1, 1, 0, 0))), (1, 1, ((0, 0, 1),), (0, 0, 1, 1))
        )
        self.same(
            least_form(plan_of(2, 2, [(1, 1, 2)])), plan_of(2, 2, [(0, 1, 0)])
        )

    def test_the_same_for_all_eight(self):
        for plan in list(some_plans())[::2]:
            for move in range(8):
                self.same(least_form(mirrored(plan, move)), least_form(plan))


class Alike(Refusals):
    def yes(self, one, other):
        self.assertIs(alike(one, other), True)
        self.assertIs(alike(other, one), True)
        self.assertIs(alike(other=other, one=one), True)

    def no(self, one, other):
        self.assertIs(alike(one, other), False)
        self.assertIs(alike(other, one), False)
        self.assertIs(alike(other=other, one=one), False)

    def test_a_plan_and_its_moved_ones(self):
        for plan in list(some_plans())[::2]:
            for move in range(8):
                self.yes(plan, moved_by_hand(plan, move))

    def test_one_lead_more_or_elsewhere(self):
        fewer = plan_of(3, 2, MARKED[2][1:])
        self.no(MARKED, fewer)
        self.no(plan_of(3, 2, [(0, 1, 0)]), plan_of(3, 2, [(1, 1, 0)]))
        self.yes(plan_of(3, 2, [(0, 1, 0)]), plan_of(3, 2, [(2, 1, 0)]))
        self.no(plan_of(3, 3, [(1, 1, 1)]), plan_of(3, 3, [(0, 0, 1)]))
        self.yes(plan_of(3, 3, [(2, 2, 1)]), plan_of(3, 3, [(0, 0, 1)]))

    def test_other_glass(self):
        self.no((1, 1, (), (1,) * 4), (1, 1, (), (2,) * 4))
        self.no(bare(2, 2), (2, 2, (), (1,) * 16))
        self.no(MARKED, GLASSY)
        halves = ((0, 0, 1),)
        self.yes((1, 1, halves, (1, 1, 2, 2)), (1, 1, halves, (2, 2, 1, 1)))
        self.no((1, 1, halves, (1, 1, 2, 2)), (1, 1, halves, (1, 1, 1, 1)))

    def test_unlike_sizes(self):
        for width, height in SIZES:
            self.yes(bare(width, height), bare(height, width))
            for other_width, other_height in SIZES[::7]:
                if sorted((width, height)) != sorted((other_width, other_height)):
                    self.no(bare(width, height), bare(other_width, other_height))

    def test_by_their_least_forms(self):
        plans = [mixed(2, 2, share, seed) for share in (20, 45) for seed in range(12)]
        for one in plans:
            for other in plans:
                self.assertIs(alike(one, other), least_form(one) == least_form(other))


if __name__ == "__main__":
    unittest.main()
