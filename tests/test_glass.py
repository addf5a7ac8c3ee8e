"""leadlight.glass: stretches, leads laid and pulled out, glass set and broken."""

import itertools
import unittest

from helper import (
    BAD_COLOURS, BAD_MANY, BAD_TURNS, BY_HAND, COLOURS, DIAMOND, MOVES, NESTED, OPPOSITE, SIZES,
    SOME_COLOURS, VERY_GREAT, Raster, Refusals,
    cell_of, glassy_plans, mixed, not_crossing, plan_of, rim_of, with_glass, within_of,
)
from leadlight.errors import (
    BadColour, BadMany, BadPoint, BadQuarter, BadTurn, Crossing, Framed, Glazed, NoGlass,
    NoLead, Off, Taken,
)
from leadlight.glass import glazed, laid, pulled, shattered, stretch, used
from leadlight.plans import bare, free_leads, is_plan

# Two halves of a cell, and a cell beside them.
HALVES = plan_of(2, 1, [(0, 0, 1), (1, 0, 2)])


def points_off(width, height):
    """Points beside the board, at each side of it."""
    for x in (-1, width + 1, -width - 1) + VERY_GREAT:
        yield from ((x, 0), (x, height))
    for y in (-1, height + 1, -height - 1) + VERY_GREAT:
        yield from ((0, y), (width, y))


def stretch_by_hand(width, height, x, y, turn, many):
    """The names of a stretch, or the number of the step that leaves the board."""
    names = []
    right, down = MOVES[turn]
    for at in range(many):
        far_x, far_y = x + right, y + down
        if not (0 <= far_x <= width and 0 <= far_y <= height):
            return at
        names.append((x, y, turn) if turn < 4 else (far_x, far_y, OPPOSITE[turn]))
        x, y = far_x, far_y
    return names


def some_plans():
    return list(glassy_plans())[::4] + list(BY_HAND) + [HALVES, bare(1, 1)]


class Stretch(Refusals):
    def test_written_out(self):
        plan = bare(4, 3)
        self.same(stretch(plan, 1, 1, 0), [(1, 1, 0)])
        self.same(stretch(plan, 0, 0, 1, 3), [(0, 0, 1), (1, 1, 1), (2, 2, 1)])
        self.same(stretch(plan, 4, 0, 2, 2), [(4, 0, 2), (4, 1, 2)])
        self.same(stretch(plan, 4, 0, 3, 3), [(4, 0, 3), (3, 1, 3), (2, 2, 3)])
        self.same(stretch(plan, 4, 2, 4, 2), [(3, 2, 0), (2, 2, 0)])
        self.same(stretch(plan, 3, 3, 5, 2), [(2, 2, 1), (1, 1, 1)])
        self.same(stretch(plan, 2, 3, 6, 3), [(2, 2, 2), (2, 1, 2), (2, 0, 2)])
        self.same(stretch(plan, 0, 3, 7, 2), [(1, 2, 3), (2, 1, 3)])

    def test_one_where_many_is_left_out(self):
        for turn in range(8):
            told = stretch_by_hand(2, 2, 1, 1, turn, 1)
            self.same(stretch(bare(2, 2), 1, 1, turn), told)
            self.same(stretch(bare(2, 2), 1, 1, turn, 1), told)
            self.same(stretch(turn=turn, y=1, x=1, plan=bare(2, 2)), told)
            self.same(stretch(many=1, turn=turn, y=1, x=1, plan=bare(2, 2)), told)

    def test_each_turn_and_length_from_each_point(self):
        for width, height in ((1, 1), (1, 9), (9, 1), (3, 5), (9, 9), (9, 8)):
            plan = bare(width, height)
            for x in range(width + 1):
                for y in range(height + 1):
                    for turn in range(8):
                        for many in range(1, 10):
                            told = stretch_by_hand(width, height, x, y, turn, many)
                            if isinstance(told, list):
                                self.same(stretch(plan, x, y, turn, many), told)
                            else:
                                self.refused_at(told, Off, stretch, plan, x, y, turn, many)

    def test_what_lies_there_does_not_matter(self):
        for plan in BY_HAND:
            for turn in range(8):
                told = stretch_by_hand(plan[0], plan[1], 1, 1, turn, 1)
                self.same(stretch(plan, 1, 1, turn), told)

    def test_bad_points(self):
        for width, height in ((1, 1), (4, 2), (9, 9)):
            for x, y in points_off(width, height):
                for turn in (0, 3, 4, 7):
                    self.refused(BadPoint, stretch, bare(width, height), x, y, turn)
                    self.refused(BadPoint, stretch, bare(width, height), x, y, turn, 2)

    def test_bad_turns(self):
        for turn in BAD_TURNS:
            self.refused(BadTurn, stretch, bare(3, 3), 1, 1, turn)
            self.refused(BadTurn, stretch, bare(3, 3), 0, 3, turn, 9)

    def test_bad_many(self):
        for many in BAD_MANY:
            for turn in range(8):
                self.refused(BadMany, stretch, bare(3, 3), 1, 1, turn, many)
                self.refused(BadMany, stretch, many=many, turn=turn, y=1, x=1, plan=bare(3, 3))

    def test_the_step_that_leaves_the_board_first(self):
        self.refused_at(0, Off, stretch, bare(9, 9), 0, 0, 4)
        self.refused_at(0, Off, stretch, bare(9, 9), 0, 5, 3, 9)
        self.refused_at(1, Off, stretch, bare(9, 9), 8, 0, 0, 2)
        self.refused_at(1, Off, stretch, bare(9, 9), 8, 0, 0, 9)
        self.refused_at(8, Off, stretch, bare(9, 8), 0, 0, 1, 9)
        self.refused_at(2, Off, stretch, bare(2, 9), 0, 9, 7, 3)

    def test_several_wrong_at_once(self):
        for x, y in points_off(2, 2):
            for turn in BAD_TURNS[:3] + VERY_GREAT:
                self.refused(BadPoint, stretch, bare(2, 2), x, y, turn, 0)
                self.refused(BadPoint, stretch, many=10, turn=turn, y=y, x=x, plan=bare(2, 2))
            self.refused(BadPoint, stretch, bare(2, 2), x, y, 0, 10)
        for turn in BAD_TURNS:
            for many in BAD_MANY:
                self.refused(BadTurn, stretch, bare(2, 2), 2, 2, turn, many)
        for many in BAD_MANY:
            self.refused(BadMany, stretch, bare(2, 2), 0, 0, 4, many)


class Laid(Refusals):
    def test_written_out(self):
        self.same(laid(bare(1, 1), [(0, 0, 1)]), plan_of(1, 1, [(0, 0, 1)]))
        plan = laid(bare(2, 2), [(1, 1, 2), (0, 1, 0), (1, 0, 2)])
        self.same(plan, (2, 2, ((0, 1, 0), (1, 0, 2), (1, 1, 2)), (0,) * 16))
        self.same(laid(some=[(1, 0, 3)], plan=bare(1, 1)), plan_of(1, 1, [(1, 0, 3)]))

    def test_a_list_of_none(self):
        for plan in some_plans():
            self.same(laid(plan, []), plan)

    def test_both_panes_have_the_colour(self):
        whole = (1, 1, (), (7, 7, 7, 7))
        self.same(laid(whole, [(0, 0, 1)]), (1, 1, ((0, 0, 1),), (7, 7, 7, 7)))
        for plan in some_plans():
            some = not_crossing(free_leads(plan)[::2])
            told = laid(plan, some)
            self.same(told, (plan[0], plan[1], tuple(sorted(plan[2] + tuple(some))), plan[3]))
            self.assertIs(is_plan(told), True)

    def test_the_order_does_not_matter(self):
        some = [(2, 0, 2), (0, 1, 0), (1, 1, 1), (3, 0, 3)]
        told = plan_of(3, 2, some)
        for row in itertools.permutations(some):
            self.same(laid(bare(3, 2), list(row)), told)
            plan = bare(3, 2)
            for name in row:
                plan = laid(plan, [name])
            self.same(plan, told)

    def test_taken(self):
        for plan in some_plans():
            there = list(plan[2]) + rim_of(plan[0], plan[1])
            free = not_crossing(free_leads(plan))[:4]
            for name in there[::3]:
                self.refused_at(0, Taken, laid, plan, [name])
                self.refused_at(0, Taken, laid, plan, [name, *free])
                self.refused_at(len(free), Taken, laid, plan, [*free, name])
                self.refused_at(len(free), Taken, laid, some=[*free, name], plan=plan)

    def test_taken_by_the_frame(self):
        for width, height in SIZES[::5] + ((1, 1),):
            for name in rim_of(width, height):
                self.refused_at(0, Taken, laid, bare(width, height), [name])
                self.refused_at(1, Taken, laid, bare(width, height), [(0, 0, 1), name])

    def test_crossing(self):
        for plan in some_plans():
            free = [name for name in free_leads(plan) if name[2] % 2 == 0][:3]
            for x, y, turn in plan[2]:
                if turn % 2 == 1:
                    name = (x + 1, y, 3) if turn == 1 else (x - 1, y, 1)
                    self.refused_at(0, Crossing, laid, plan, [name])
                    self.refused_at(len(free), Crossing, laid, plan, [*free, name])

    def test_step_by_step(self):
        plan = plan_of(3, 3, [(0, 0, 1), (1, 1, 0)])
        crossing, taken, frame, free = (1, 0, 3), (1, 1, 0), (0, 0, 0), (1, 1, 2)
        self.refused_at(0, Crossing, laid, plan, [crossing, taken, frame])
        self.refused_at(0, Taken, laid, plan, [taken, crossing])
        self.refused_at(1, Taken, laid, plan, [free, frame, crossing])
        self.refused_at(1, Crossing, laid, plan, [free, crossing, frame])
        self.refused_at(2, Taken, laid, plan, [free, (2, 1, 2), taken, crossing])

    def test_against_one_lead_after_another(self):
        for seed in range(30):
            plan = mixed(3, 3, 40, seed)
            some = not_crossing(mixed(3, 3, 50, seed + 100)[2][::-1])
            there, kind = set(plan[2]), None
            for at, name in enumerate(some):
                if name in there:
                    kind = Taken
                elif cell_of(name) and cell_of(name) in {cell_of(one) for one in there}:
                    kind = Crossing
                if kind:
                    self.refused_at(at, kind, laid, plan, some)
                    break
            if not kind:
                self.same(laid(plan, some), plan_of(3, 3, there | set(some)))

    def test_what_was_handed_in_stays(self):
        some = [(1, 1, 2), (0, 1, 0)]
        told = laid(bare(2, 2), some)
        self.same(some, [(1, 1, 2), (0, 1, 0)])
        some.clear()
        self.same(told, plan_of(2, 2, [(0, 1, 0), (1, 1, 2)]))


def pulled_by_hand(plan, some):
    """Fills the panes that come, and sees what glass was in them."""
    width, height, within, glass = plan
    left = plan_of(width, height, set(within) - set(some))
    names = Raster(left).names
    lost, kept = {}, list(glass)
    for pane in set(names):
        quarters = [quarter for quarter, name in enumerate(names) if name == pane]
        if len({glass[quarter] for quarter in quarters}) > 1:
            for quarter in quarters:
                kept[quarter] = 0
                if glass[quarter]:
                    lost[glass[quarter]] = lost.get(glass[quarter], 0) + 1
    return ((width, height, left[2], tuple(kept)), sorted(lost.items()))


class Pulled(Refusals):
    def test_a_pane_of_one_colour_keeps_it(self):
        plan = (2, 1, HALVES[2], (4,) * 8)
        self.same(pulled(plan, [(0, 0, 1)]), ((2, 1, ((1, 0, 2),), (4,) * 8), []))
        self.same(pulled(plan, [(1, 0, 2), (0, 0, 1)]), ((2, 1, (), (4,) * 8), []))
        self.same(pulled(some=[(0, 0, 1)], plan=plan), ((2, 1, ((1, 0, 2),), (4,) * 8), []))

    def test_two_colours_are_lost(self):
        plan = (2, 1, HALVES[2], (5, 5, 3, 3, 5, 5, 5, 5))
        told = ((2, 1, ((1, 0, 2),), (0, 0, 0, 0, 5, 5, 5, 5)), [(3, 2), (5, 2)])
        self.same(pulled(plan, [(0, 0, 1)]), told)
        told = ((2, 1, ((0, 0, 1),), (5, 5, 3, 3, 5, 5, 5, 5)), [])
        self.same(pulled(plan, [(1, 0, 2)]), told)
        self.same(pulled(plan, [(0, 0, 1), (1, 0, 2)]), (bare(2, 1), [(3, 2), (5, 6)]))
        self.same(pulled(plan, [(1, 0, 2), (0, 0, 1)]), (bare(2, 1), [(3, 2), (5, 6)]))

    def test_a_colour_and_none(self):
        plan = (2, 1, HALVES[2], (2, 2, 0, 0, 9, 9, 9, 9))
        told = ((2, 1, ((1, 0, 2),), (0, 0, 0, 0, 9, 9, 9, 9)), [(2, 2)])
        self.same(pulled(plan, [(0, 0, 1)]), told)
        plan = (2, 1, HALVES[2], (0, 0, 2, 2, 0, 0, 0, 0))
        self.same(pulled(plan, [(0, 0, 1)]), ((2, 1, ((1, 0, 2),), (0,) * 8), [(2, 2)]))

    def test_nothing_lost_where_no_glass_is(self):
        for plan in BY_HAND:
            for name in plan[2]:
                told = plan_of(plan[0], plan[1], set(plan[2]) - {name})
                self.same(pulled(plan, [name]), (told, []))

    def test_a_list_of_none(self):
        for plan in some_plans():
            self.same(pulled(plan, []), (plan, []))

    def test_several_panes_at_once(self):
        # The corners of the diamond at the left, then those at the right.
        glass = with_glass(DIAMOND, (1,))[3]
        quarters = {0: 2, 3: 2, 4: 3, 5: 3, 10: 4, 11: 4, 13: 2, 14: 2}
        plan = (2, 2, DIAMOND[2], tuple(quarters.get(at, one) for at, one in enumerate(glass)))
        left, lost = pulled(plan, [(1, 0, 3), (0, 1, 1)])
        self.same(lost, [(1, 8), (2, 2), (4, 2)])
        self.same(left[3], (0, 0, 0, 0, 3, 3, 0, 0, 0, 0, 0, 0, 0, 2, 2, 0))
        row = plan_of(4, 1, [(1, 0, 2), (2, 0, 2), (3, 0, 2)])
        plan = (*row[:3], (8,) * 4 + (2,) * 4 + (8,) * 4 + (1,) * 4)
        told = ((4, 1, ((2, 0, 2),), (0,) * 16), [(1, 4), (2, 4), (8, 8)])
        self.same(pulled(plan, [(3, 0, 2), (1, 0, 2)]), told)

    def test_one_pane_is_lost_and_another_kept(self):
        row = plan_of(4, 1, [(1, 0, 2), (2, 0, 2), (3, 0, 2)])
        plan = (*row[:3], (6,) * 8 + (3,) * 4 + (1,) * 4)
        told = ((4, 1, ((2, 0, 2),), (6,) * 8 + (0,) * 8), [(1, 4), (3, 4)])
        self.same(pulled(plan, [(1, 0, 2), (3, 0, 2)]), told)

    def test_a_free_piece_is_pulled_out(self):
        plan = with_glass(NESTED, (5,))
        self.same(pulled(plan, [(2, 2, 0)]), ((5, 5, plan_less(NESTED, [(2, 2, 0)]), plan[3]), []))

    def test_against_panes_filled_another_way(self):
        for plan in some_plans():
            for every, first in ((1, 0), (2, 1), (3, 0), (5, 2), (17, 4)):
                some = list(plan[2][first::every])
                self.same(pulled(plan, some), pulled_by_hand(plan, some))
                self.same(pulled(plan, some[::-1]), pulled_by_hand(plan, some))

    def test_glass_that_is_left_and_lost_is_what_was_there(self):
        for plan in list(glassy_plans())[1::5]:
            left, lost = pulled(plan, list(plan[2][::3]))
            for colour in COLOURS:
                self.assertEqual(
                    left[3].count(colour) + dict(lost).get(colour, 0), plan[3].count(colour)
                )

    def test_what_is_laid_and_pulled_again(self):
        for plan in some_plans():
            some = not_crossing(free_leads(plan)[::3])
            self.same(pulled(laid(plan, some), some), (plan, []))

    def test_framed(self):
        for width, height in SIZES[::5] + ((1, 1),):
            plan = plan_of(width, height, [(0, 0, 1)])
            for name in rim_of(width, height):
                self.refused_at(0, Framed, pulled, plan, [name])
                self.refused_at(1, Framed, pulled, plan, [(0, 0, 1), name])
                self.refused_at(1, Framed, pulled, some=[(0, 0, 1), name], plan=plan)

    def test_no_lead(self):
        for plan in some_plans():
            left = sorted(set(within_of(plan[0], plan[1])) - set(plan[2]))
            there = list(plan[2][:5])
            for name in left[::3]:
                self.refused_at(0, NoLead, pulled, plan, [name])
                self.refused_at(len(there), NoLead, pulled, plan, [*there, name])

    def test_step_by_step(self):
        plan = plan_of(3, 3, [(0, 0, 1), (1, 1, 0)])
        there, frame, missing = (0, 0, 1), (0, 3, 0), (1, 0, 3)
        self.refused_at(0, Framed, pulled, plan, [frame, missing])
        self.refused_at(0, NoLead, pulled, plan, [missing, frame])
        self.refused_at(1, NoLead, pulled, plan, [there, missing, frame])
        self.refused_at(2, Framed, pulled, plan, [there, (1, 1, 0), frame, missing])

    def test_what_was_handed_in_stays(self):
        some = [(1, 0, 2), (0, 0, 1)]
        told = pulled(HALVES, some)
        self.same(some, [(1, 0, 2), (0, 0, 1)])
        some.clear()
        self.same(told, (bare(2, 1), []))
        self.same(HALVES, plan_of(2, 1, [(0, 0, 1), (1, 0, 2)]))


def plan_less(plan, some):
    return tuple(name for name in plan[2] if name not in some)


class Glaze(Refusals):
    def test_written_out(self):
        self.same(glazed(HALVES, 0, 3), (2, 1, HALVES[2], (3, 3, 0, 0, 0, 0, 0, 0)))
        self.same(glazed(HALVES, 3, 9), (2, 1, HALVES[2], (0, 0, 9, 9, 0, 0, 0, 0)))
        self.same(glazed(HALVES, 6), (2, 1, HALVES[2], (0, 0, 0, 0, 1, 1, 1, 1)))
        self.same(glazed(quarter=6, plan=HALVES), glazed(HALVES, 6, 1))
        self.same(glazed(colour=2, quarter=1, plan=HALVES), glazed(HALVES, 0, 2))

    def test_all_quarters_of_the_pane_and_no_others(self):
        for plan in some_plans():
            names = Raster(plan).names
            for quarter in range(0, len(names), 1 + len(names) // 40):
                colour = 1 + quarter % 9
                right = tuple(
                    colour if name == names[quarter] else old for name, old in zip(names, plan[3])
                )
                if plan[3][quarter]:
                    self.refused(Glazed, glazed, plan, quarter, colour)
                else:
                    self.same(glazed(plan, quarter, colour), (*plan[:3], right))

    def test_bad_quarters(self):
        for plan in (bare(1, 1), HALVES, with_glass(NESTED, COLOURS)):
            many = len(plan[3])
            for quarter in (-1, -many, many, many + 1) + VERY_GREAT:
                self.refused(BadQuarter, glazed, plan, quarter)
                self.refused(BadQuarter, glazed, plan, quarter, 10)
                self.refused(BadQuarter, glazed, colour=0, quarter=quarter, plan=plan)

    def test_bad_colours(self):
        full = with_glass(HALVES, COLOURS)
        for colour in BAD_COLOURS:
            self.refused(BadColour, glazed, HALVES, 0, colour)
            self.refused(BadColour, glazed, full, 0, colour)
            self.refused(BadColour, glazed, colour=colour, quarter=7, plan=full)

    def test_glazed_with_the_same_colour_too(self):
        for colour in COLOURS:
            plan = glazed(HALVES, 2, colour)
            for other in COLOURS:
                self.refused(Glazed, glazed, plan, 2, other)
                self.refused(Glazed, glazed, plan, 3, other)
            self.same(glazed(plan, 0)[3][:4], (1, 1, colour, colour))


class Shatter(Refusals):
    def test_written_out(self):
        plan = (2, 1, HALVES[2], (3, 3, 3, 3, 0, 0, 0, 0))
        self.same(shattered(plan, 1), (2, 1, HALVES[2], (0, 0, 3, 3, 0, 0, 0, 0)))
        self.same(shattered(plan, 2), (2, 1, HALVES[2], (3, 3, 0, 0, 0, 0, 0, 0)))
        self.same(shattered(quarter=2, plan=plan), shattered(plan, 3))

    def test_all_quarters_of_the_pane_and_no_others(self):
        for plan in some_plans():
            names = Raster(plan).names
            for quarter in range(0, len(names), 1 + len(names) // 40):
                right = tuple(
                    0 if name == names[quarter] else old for name, old in zip(names, plan[3])
                )
                if plan[3][quarter]:
                    self.same(shattered(plan, quarter), (*plan[:3], right))
                    self.same(glazed((*plan[:3], right), quarter, plan[3][quarter]), plan)
                else:
                    self.refused(NoGlass, shattered, plan, quarter)

    def test_bad_quarters(self):
        for plan in (bare(1, 1), HALVES, with_glass(NESTED, COLOURS)):
            many = len(plan[3])
            for quarter in (-1, -many, many, many + 1) + VERY_GREAT:
                self.refused(BadQuarter, shattered, plan, quarter)
                self.refused(BadQuarter, shattered, quarter=quarter, plan=plan)

    def test_no_glass(self):
        for quarter in range(8):
            self.refused(NoGlass, shattered, HALVES, quarter)
            self.refused(NoGlass, shattered, quarter=quarter, plan=HALVES)


class Used(Refusals):
    def test_counted(self):
        plan = (2, 1, HALVES[2], (3, 3, 1, 1, 3, 3, 3, 3))
        self.same([used(plan, colour) for colour in COLOURS], [2, 0, 6, 0, 0, 0, 0, 0, 0])
        self.same(used(colour=3, plan=plan), 6)
        for plan in some_plans():
            for colour in COLOURS:
                self.same(used(plan, colour), sum(one == colour for one in plan[3]))

    def test_bad_colours(self):
        for colour in BAD_COLOURS:
            self.refused(BadColour, used, HALVES, colour)
            self.refused(BadColour, used, colour=colour, plan=with_glass(NESTED, SOME_COLOURS))


class ToldAnew(Refusals):
    def test_lists(self):
        plan = (2, 1, HALVES[2], (5, 5, 3, 3, 5, 5, 5, 5))
        self.told_anew(stretch, NESTED, 1, 1, 0, 3)
        self.told_anew(pulled, plan, [(0, 0, 1)])
        self.told_anew(pulled, NESTED, [(2, 2, 0)])


if __name__ == "__main__":
    unittest.main()
