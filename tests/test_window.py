"""leadlight.window: windows, their deeds, and what can be taken back."""

import random
import unittest

from helper import (
    BAD_COLOURS, BAD_MANY, BAD_SIDES, BAD_TURNS, COLOURS, CROSS, DIAMOND, NESTED, SIZES, VERY_GREAT,
    Model, Refusals,
    counts_of, glassy_plans, mixed, plan_of, some_deeds, with_glass,
)
from leadlight.code import code
from leadlight.drawing import drawing
from leadlight.errors import (
    BadColour, BadMany, BadPoint, BadQuarter, BadSize, BadText, BadTurn, Crossing, Framed, Full,
    Glazed, NoGlass, NoLead, NothingLeft, Off, Taken,
)
from leadlight.plans import bare
from leadlight.window import Window, window_of


def stands(window):
    """All that can be asked of a window, but for what can be taken back."""
    glass = [(window.lost(colour), window.bought(colour)) for colour in COLOURS]
    return [window.plan(), window.deeds(), len(window), glass, str(window), repr(window)]


def all_of(window):
    """All that can be asked of a window, asked of a twin wherever it changes something."""
    twin = window.twin()
    rows = [stands(twin)]
    for turn_back in (True, False):
        try:
            while True:
                rows.append([twin.undo() if turn_back else twin.redo(), stands(twin)])
        except NothingLeft:
            pass
    return rows


def window_as(plan):
    """A window that stands so."""
    return window_of(code(plan))


def short(window):
    """Plan, deeds and what was lost, where all would take too long to ask for."""
    return [window.plan(), window.deeds(), [window.lost(colour) for colour in COLOURS]]


class NewWindows(Refusals):
    def test_the_frame_alone(self):
        for width, height in SIZES:
            window = Window(width, height)
            self.same(window.plan(), bare(width, height))
            self.same(window.deeds(), [])
            self.same([window.lost(1), window.bought(1), len(window)], [0, 0, 0])
            self.same(Window(height=height, width=width).plan(), bare(width, height))
            self.refused(NothingLeft, window.undo)
            self.refused(NothingLeft, window.redo)

    def test_bad_sizes(self):
        for side in BAD_SIDES:
            self.refused(BadSize, Window, side, 3)
            self.refused(BadSize, Window, 3, side)
            self.refused(BadSize, Window, height=side, width=side)


class Deeds(Refusals):
    def test_each_tells_its_own(self):
        window = Window(3, 2)
        self.same(window.lay(1, 0, 2, 2), (1, 0))
        self.same(window.glaze(0, 4), 8)
        self.same(window.glaze(4), 16)
        self.same(window.lay(0, 0, 1), (1, 0))
        self.same(window.shatter(2), 4)
        self.same(window.pull(1, 2, 6, 2), (-2, 0))
        self.same(window.plan(), plan_of(3, 2, [(0, 0, 1)]))
        self.same([window.lost(1), window.lost(4)], [16, 8])
        self.same([window.bought(1), window.bought(4)], [16, 8])
        self.same(
            window.deeds(),
            [
                ("lay", 1, 0, 2, 2), ("glaze", 0, 4), ("glaze", 4, 1), ("lay", 0, 0, 1, 1),
                ("shatter", 2), ("pull", 1, 2, 6, 2),
            ],
        )

    def test_glass_that_is_cut(self):
        window = Window(1, 1)
        self.same(window.glaze(3, 7), 4)
        self.same(window.lay(0, 0, 1), (1, 0))
        self.same(window.plan()[3], (7, 7, 7, 7))
        self.same(window.shatter(0), 7)
        self.same(window.plan()[3], (0, 0, 7, 7))
        self.same(window.glaze(1, 8), 2)
        self.same(window.pull(1, 1, 5), (-1, 0))
        self.same(window.plan(), bare(1, 1))
        self.same([window.lost(7), window.lost(8)], [4, 2])
        self.same([window.bought(7), window.bought(8)], [4, 2])

    def test_what_is_left_out_is_put_in(self):
        told = [("lay", 1, 0, 2, 1), ("glaze", 0, 1), ("pull", 1, 1, 6, 1)]
        window = Window(2, 1)
        for deed in (lambda: window.lay(1, 0, 2), lambda: window.glaze(0), lambda: window.pull(1, 1, 6)):
            deed()
        self.same(window.deeds(), told)
        window = Window(height=1, width=2)
        self.same(window.lay(turn=2, y=0, x=1), (1, 0))
        self.same(window.glaze(quarter=0), 4)
        self.same(window.pull(turn=6, y=1, x=1), (-1, 0))
        self.same(window.deeds(), told)
        window = Window(2, 1)
        self.same(window.lay(many=1, turn=2, y=0, x=1), (1, 0))
        self.same(window.glaze(colour=1, quarter=0), 4)
        self.same(window.pull(many=1, turn=6, y=1, x=1), (-1, 0))
        self.same(window.deeds(), told)
        window = Window(2, 1)
        self.same(window.glaze(colour=5, quarter=0), 8)
        self.same(window.shatter(quarter=7), 5)
        self.same(window.deeds(), [("glaze", 0, 5), ("shatter", 7)])

    def test_deeds_keep_the_turn_they_were_handed(self):
        window = Window(2, 2)
        window.lay(2, 2, 5, 2)
        self.same(window.deeds(), [("lay", 2, 2, 5, 2)])
        self.same(window.plan()[2], ((0, 0, 1), (1, 1, 1)))


class Growth(Refusals):
    """The four ways that a lead goes, each forth and back."""

    def both_ways(self, plan, deed, told):
        window = window_as(plan)
        self.same(window.lay(*deed), told)
        one, other = counts_of(plan), counts_of(window.plan())
        self.same((other[0] - one[0], other[1] - one[1]), told)
        back = window.pull(*deed)
        self.same(back, (-told[0], -told[1]))
        self.same(window.plan(), plan)

    def test_one_pane_more(self):
        self.both_ways(bare(1, 1), (0, 0, 1), (1, 0))
        self.both_ways(plan_of(3, 3, [(0, 1, 0)]), (1, 1, 6), (1, 0))
        ring = plan_of(4, 4, [(1, 1, 0), (2, 1, 2), (1, 1, 2)])
        self.both_ways(ring, (1, 2, 0), (1, 0))

    def test_two_pieces_tied(self):
        self.both_ways(plan_of(3, 3, [(1, 1, 0)]), (1, 1, 4), (0, -1))
        self.both_ways(plan_of(5, 5, [(1, 1, 0), (3, 1, 0)]), (2, 1, 0), (0, -1))
        self.both_ways(plan_of(5, 5, [(1, 1, 0), (3, 2, 0)]), (2, 1, 1), (0, -1))

    def test_a_free_piece_begun(self):
        self.both_ways(bare(3, 3), (1, 1, 0), (0, 1))
        self.both_ways(bare(3, 3), (2, 2, 5), (0, 1))
        self.both_ways(NESTED, (2, 3, 0), (0, 1))

    def test_one_lengthened(self):
        self.both_ways(bare(2, 2), (1, 1, 6), (0, 0))
        self.both_ways(bare(2, 2), (0, 0, 1), (0, 0))
        self.both_ways(plan_of(4, 3, [(1, 1, 0)]), (2, 1, 0), (0, 0))
        self.both_ways(NESTED, (3, 2, 2), (0, 0))

    def test_several_leads(self):
        self.both_ways(bare(9, 9), (0, 0, 1, 9), (1, 0))
        self.both_ways(bare(5, 5), (1, 1, 0, 3), (0, 1))
        self.both_ways(bare(5, 5), (0, 1, 0, 3), (0, 0))
        self.both_ways(plan_of(5, 5, [(2, 2, 0)]), (1, 2, 4, 1), (0, 0))
        self.both_ways(plan_of(5, 5, [(2, 2, 0)]), (2, 2, 4, 2), (0, -1))
        grid = plan_of(4, 4, [(x, y, 2) for x in (1, 2, 3) for y in range(4)])
        self.both_ways(grid, (0, 2, 0, 4), (4, 0))
        pillars = plan_of(4, 4, [(x, y, 2) for x in (1, 2, 3) for y in (1, 2)])
        self.both_ways(pillars, (0, 1, 0, 4), (1, -3))
        self.both_ways(pillars, (1, 1, 0, 2), (0, -2))

    def test_each_free_lead_goes_one_of_the_four_ways(self):
        ways = {(1, 0), (0, -1), (0, 1), (0, 0)}
        seen = set()
        for seed in range(6):
            plan = mixed(4, 4, 30, seed)
            for x in range(5):
                for y in range(5):
                    for turn in range(4):
                        window = window_as(plan)
                        try:
                            told = window.lay(x, y, turn)
                        except (Off, Taken, Crossing):
                            continue
                        seen.add(told)
                        self.same(window.pull(x, y, turn), (-told[0], -told[1]))
        self.assertEqual(seen, ways)


class Refused(Refusals):
    """Refusals, which leave the window as it was."""

    def window(self):
        """A window with deeds that stand, deeds taken back, and glass lost."""
        window = Window(3, 3)
        window.lay(0, 0, 1, 3)
        window.glaze(0, 2)
        window.lay(1, 1, 0)
        window.shatter(0)
        window.glaze(1, 3)
        window.lay(2, 1, 2)
        window.undo()
        window.undo()
        return window

    def is_refused(self, kind, method, *places, at=None, **names):
        window = self.window()
        kept = all_of(window)
        error = self.refused(kind, getattr(window, method), *places, **names)
        if at is not None:
            self.assertEqual(error.at, at)
        self.same(all_of(window), kept)
        self.same(window.redo(), ("glaze", 1, 3))

    def test_points_turns_and_lengths(self):
        for method in ("lay", "pull"):
            for x, y in ((-1, 0), (4, 0), (0, -1), (0, 4), (VERY_GREAT[0], 1), (1, VERY_GREAT[1])):
                self.is_refused(BadPoint, method, x, y, 0)
                self.is_refused(BadPoint, method, x, y, 8, 0)
            for turn in BAD_TURNS[:4] + VERY_GREAT:
                self.is_refused(BadTurn, method, 0, 0, turn)
                self.is_refused(BadTurn, method, 0, 0, turn, 10)
            for many in BAD_MANY:
                self.is_refused(BadMany, method, 0, 0, 0, many)
                self.is_refused(BadMany, method, many=many, turn=4, y=0, x=0)
            self.is_refused(Off, method, 0, 0, 4, at=0)
            self.is_refused(Off, method, 2, 1, 0, 2, at=1)
            self.is_refused(Off, method, 0, 0, 1, 9, at=3)

    def test_taken_and_crossing(self):
        self.is_refused(Taken, "lay", 0, 0, 1, at=0)
        self.is_refused(Taken, "lay", 0, 0, 0, at=0)
        self.is_refused(Taken, "lay", 0, 1, 0, 2, at=1)
        self.is_refused(Crossing, "lay", 1, 0, 3, at=0)
        self.is_refused(Crossing, "lay", 3, 0, 3, 2, at=1)
        self.is_refused(Off, "lay", 0, 0, 0, 4, at=3)

    def test_framed_and_no_lead(self):
        self.is_refused(Framed, "pull", 0, 0, 0, at=0)
        self.is_refused(Framed, "pull", 3, 3, 6, 2, at=0)
        self.is_refused(NoLead, "pull", 1, 1, 2, at=0)
        self.is_refused(NoLead, "pull", 1, 1, 0, 2, at=1)
        self.is_refused(NoLead, "pull", 1, 0, 3, at=0)
        self.is_refused(Off, "pull", 1, 1, 0, 3, at=2)

    def test_glass(self):
        for quarter in (-1, 36, -36) + VERY_GREAT:
            self.is_refused(BadQuarter, "glaze", quarter)
            self.is_refused(BadQuarter, "glaze", quarter, 0)
            self.is_refused(BadQuarter, "shatter", quarter)
        for colour in BAD_COLOURS:
            self.is_refused(BadColour, "glaze", 0, colour)
            self.is_refused(BadColour, "glaze", colour=colour, quarter=0)
            self.is_refused(BadColour, "lost", colour)
            self.is_refused(BadColour, "bought", colour)
            self.is_refused(BadColour, "lost", colour=colour)
            self.is_refused(BadColour, "bought", colour=colour)
        self.is_refused(NoGlass, "shatter", 0)
        window = self.window()
        window.glaze(0, 5)
        kept = all_of(window)
        self.refused(Glazed, window.glaze, 0, 5)
        self.refused(Glazed, window.glaze, 1, 6)
        self.refused(BadColour, window.glaze, 1, 0)
        self.same(all_of(window), kept)

    def test_questions_leave_all_as_it_was(self):
        window = self.window()
        kept = all_of(window)
        window.plan(), window.deeds(), window.lost(2), window.bought(2), window.twin()
        len(window), str(window), repr(window), window == window, window != Window(3, 3)
        self.same(all_of(window), kept)
        self.same(window.redo(), ("glaze", 1, 3))
        self.same(window.redo(), ("lay", 2, 1, 2, 1))


class BackAndForth(Refusals):
    def test_told_deeds(self):
        window = Window(2, 1)
        window.lay(1, 0, 2)
        window.glaze(4)
        self.same(window.undo(), ("glaze", 4, 1))
        self.same(window.undo(), ("lay", 1, 0, 2, 1))
        self.refused(NothingLeft, window.undo)
        self.same(window.redo(), ("lay", 1, 0, 2, 1))
        self.same(window.redo(), ("glaze", 4, 1))
        self.refused(NothingLeft, window.redo)
        self.same(window.deeds(), [("lay", 1, 0, 2, 1), ("glaze", 4, 1)])

    def test_lost_and_bought_go_along(self):
        window = Window(2, 1)
        window.lay(1, 0, 2)
        window.glaze(0, 3)
        window.glaze(4, 5)
        ahead = stands(window)
        window.pull(1, 0, 2)
        behind = stands(window)
        self.same([window.lost(3), window.bought(3), window.lost(5)], [4, 4, 4])
        self.same(window.undo(), ("pull", 1, 0, 2, 1))
        self.same(stands(window), ahead)
        self.same([window.lost(3), window.bought(3), window.lost(5)], [0, 4, 0])
        self.same(window.redo(), ("pull", 1, 0, 2, 1))
        self.same(stands(window), behind)
        window.undo()
        window.undo()
        self.same([window.bought(3), window.bought(5)], [4, 0])

    def test_a_deed_lets_go_what_could_be_done_again(self):
        for deed in (("lay", 1, 1, 0), ("pull", 0, 0, 1), ("glaze", 0), ("shatter", 8)):
            window = window_as(with_glass(plan_of(3, 3, [(0, 0, 1)]), (0,)))
            if deed[0] == "shatter":
                window.glaze(8)
            window.lay(2, 2, 2)
            window.undo()
            word, *numbers = deed
            getattr(window, word)(*numbers)
            self.refused(NothingLeft, window.redo)

    def test_the_same_deed_lets_it_go_too(self):
        window = Window(3, 3)
        window.lay(1, 1, 0)
        window.lay(1, 1, 2)
        window.undo()
        window.undo()
        window.lay(1, 1, 0)
        self.refused(NothingLeft, window.redo)
        self.same(window.deeds(), [("lay", 1, 1, 0, 1)])

    def test_refused_ones_and_questions_do_not(self):
        window = Window(3, 3)
        window.lay(1, 1, 0)
        window.undo()
        self.refused(Taken, window.lay, 0, 0, 0)
        self.refused(NoLead, window.pull, 1, 1, 0)
        self.refused(BadQuarter, window.glaze, 99)
        self.refused(NoGlass, window.shatter, 0)
        self.refused(NothingLeft, window.undo)
        window.plan(), window.deeds(), window.lost(1), window.twin(), str(window)
        self.same(window.redo(), ("lay", 1, 1, 0, 1))

    def test_each_leads_to_just_what_stood(self):
        for seed, (width, height) in enumerate(((1, 1), (2, 3), (4, 4), (9, 2))):
            window = Window(width, height)
            rows = [stands(window)]
            for deed in some_deeds(width, height, 120, seed):
                word, *numbers = deed
                try:
                    getattr(window, word)(*numbers)
                except (ValueError, LookupError):
                    continue
                rows.append(stands(window))
            self.assertGreater(len(rows), 20)
            for ahead, behind in list(zip(rows, rows[1:]))[::-1]:
                self.same(window.undo(), behind[1][-1])
                self.same(stands(window), ahead)
            self.refused(NothingLeft, window.undo)
            for behind in rows[1:]:
                self.same(window.redo(), behind[1][-1])
                self.same(stands(window), behind)
            self.refused(NothingLeft, window.redo)


class FullWindows(Refusals):
    def full(self):
        """A window with two hundred deeds, the last of which pulled a corner's lead out."""
        window = Window(2, 2)
        for _ in range(50):
            window.lay(0, 1, 7)
            window.glaze(0, 6)
            window.shatter(0)
            window.pull(0, 1, 7)
        return window

    def test_the_two_hundred_and_first(self):
        window = self.full()
        kept = short(window)
        self.assertEqual(len(window.deeds()), 200)
        self.refused(Full, window.lay, 0, 1, 7)
        self.refused(Full, window.glaze, 0)
        self.same(short(window), kept)
        window.undo()
        window.glaze(0)
        self.refused(Full, window.shatter, 0)
        self.refused(Full, window.pull, 0, 1, 7)
        self.assertEqual(len(window.deeds()), 200)
        self.refused(NothingLeft, window.redo)

    def test_two_hundred_are_not_too_many(self):
        window = Window(1, 1)
        for _ in range(100):
            window.lay(0, 0, 1)
            window.pull(0, 0, 1)
        self.assertEqual(len(window.deeds()), 200)

    def test_behind_all_other_refusals(self):
        window = self.full()
        window.undo()
        window.glaze(0)
        kept = short(window)
        for method in (window.lay, window.pull):
            self.refused(BadPoint, method, 3, 0, 0)
            self.refused(BadTurn, method, 0, 0, 8)
            self.refused(BadMany, method, 0, 0, 1, 0)
            self.refused_at(2, Off, method, 0, 0, 1, 3)
        self.refused_at(0, Taken, window.lay, 0, 1, 7)
        self.refused_at(1, Crossing, window.lay, 2, 2, 5, 2)
        self.refused_at(0, Framed, window.pull, 0, 0, 0)
        self.refused_at(0, NoLead, window.pull, 0, 1, 0, 2)
        self.refused(BadQuarter, window.glaze, 16)
        self.refused(BadColour, window.glaze, 0, 10)
        self.refused(Glazed, window.glaze, 3, 2)
        self.refused(BadQuarter, window.shatter, -1)
        self.refused(NoGlass, window.shatter, 2)
        self.same(short(window), kept)

    def test_taking_back_makes_room(self):
        window = self.full()
        self.same(window.undo(), ("pull", 0, 1, 7, 1))
        self.same(window.glaze(0, 4), 2)
        self.refused(Full, window.shatter, 0)
        for _ in range(3):
            window.undo()
        for _ in range(3):
            window.redo()
        self.refused(NothingLeft, window.redo)
        self.assertEqual(len(window.deeds()), 200)
        self.refused(Full, window.lay, 1, 1, 1)

    def test_all_back_and_again(self):
        window = self.full()
        kept = short(window)
        for _ in range(200):
            window.undo()
        self.refused(NothingLeft, window.undo)
        self.same(window.plan(), bare(2, 2))
        for _ in range(200):
            window.redo()
        self.refused(NothingLeft, window.redo)
        self.same(short(window), kept)
        self.refused(Full, window.lay, 0, 1, 7)

    def test_what_is_refused_full_can_be_done_again_still(self):
        window = self.full()
        window.undo()
        twin = window.twin()
        window.glaze(0)
        self.refused(Full, window.shatter, 0)
        self.same(twin.redo(), ("pull", 0, 1, 7, 1))
        self.refused(Full, twin.lay, 0, 0, 1)
        self.refused(NothingLeft, twin.redo)

    def test_deeds_in_a_window_of_a_code(self):
        window = window_as(plan_of(1, 1, [(0, 0, 1)]))
        for _ in range(100):
            window.pull(0, 0, 1)
            window.lay(0, 0, 1)
        self.refused(Full, window.pull, 0, 0, 1)


class Equal(Refusals):
    def equal(self, one, other):
        self.assertIs(one == other, True)
        self.assertIs(other == one, True)
        self.assertIs(one != other, False)
        self.assertIs(other != one, False)

    def unlike(self, one, other):
        self.assertIs(one == other, False)
        self.assertIs(other == one, False)
        self.assertIs(one != other, True)
        self.assertIs(other != one, True)

    def test_by_plans(self):
        for width, height in SIZES:
            self.equal(Window(width, height), Window(width, height))
            self.unlike(Window(width, height), Window(width, 1 + height % 9))
            if width != height:
                self.unlike(Window(width, height), Window(height, width))
        one = Window(2, 2)
        one.lay(1, 1, 0)
        self.unlike(one, Window(2, 2))
        self.equal(one, one)

    def test_the_same_plan_by_other_deeds(self):
        one, other = Window(2, 2), Window(2, 2)
        one.lay(0, 0, 1, 2)
        other.lay(1, 1, 1)
        self.unlike(one, other)
        other.lay(1, 1, 5)
        self.equal(one, other)
        one.glaze(0, 3)
        one.glaze(2, 4)
        other.glaze(2, 4)
        self.unlike(one, other)
        other.glaze(1, 3)
        self.equal(one, other)
        self.equal(one, window_as(one.plan()))

    def test_glass(self):
        one, other = Window(1, 1), Window(1, 1)
        one.glaze(0, 1)
        other.glaze(0, 2)
        self.unlike(one, other)
        self.unlike(one, Window(1, 1))

    def test_what_can_be_taken_back_does_not_count(self):
        one, other = Window(2, 2), Window(2, 2)
        one.lay(1, 1, 0)
        one.pull(1, 1, 0)
        self.equal(one, other)
        other.lay(0, 1, 0)
        other.undo()
        self.equal(one, other)

    def test_what_was_lost(self):
        one, other = Window(1, 1), Window(1, 1)
        one.glaze(0, 2)
        one.shatter(0)
        self.unlike(one, other)
        other.glaze(0, 3)
        other.shatter(0)
        self.unlike(one, other)
        other.undo()
        other.undo()
        other.glaze(3, 2)
        other.shatter(1)
        self.equal(one, other)
        one.undo()
        self.unlike(one, other)
        one.redo()
        self.equal(one, other)

    def test_pair_by_pair_in_order(self):
        def lost(*colours):
            window = Window(1, 1)
            for colour in colours:
                window.glaze(0, colour)
                window.shatter(0)
            return window

        self.equal(lost(1, 2, 1), lost(1, 2, 1))
        self.unlike(lost(1, 2), lost(2, 1))
        self.unlike(lost(1, 2, 1), lost(1, 1, 2))
        self.unlike(lost(1), lost(1, 1))

    def test_not_summed(self):
        halves, whole = Window(1, 1), Window(1, 1)
        for window in (halves, whole):
            window.glaze(0, 3)
        whole.shatter(0)
        halves.lay(0, 0, 1)
        halves.shatter(0)
        halves.shatter(2)
        halves.pull(0, 0, 1)
        self.same([halves.plan(), halves.lost(3)], [whole.plan(), whole.lost(3)])
        self.unlike(halves, whole)

    def two_halves(self):
        """A window of two panes, the first with the greater colour."""
        window = Window(1, 1)
        window.lay(0, 0, 1)
        window.glaze(0, 5)
        window.glaze(2, 3)
        return window

    def test_pulling_and_breaking_tell_the_same_pairs(self):
        pulled, broken = self.two_halves(), self.two_halves()
        pulled.pull(0, 0, 1)
        broken.shatter(2)
        broken.shatter(0)
        self.unlike(pulled, broken)
        broken.pull(0, 0, 1)
        self.equal(pulled, broken)

    def test_pulling_tells_pairs_rising_by_colours(self):
        pulled, broken = self.two_halves(), self.two_halves()
        pulled.pull(0, 0, 1)
        broken.shatter(0)
        broken.shatter(2)
        broken.pull(0, 0, 1)
        self.unlike(pulled, broken)

    def test_to_nothing_else(self):
        window = Window(2, 1)
        window.lay(1, 0, 2)
        others = (
            window.plan(), repr(window), str(window), code(window.plan()), 1, 0, None, True, False,
            [], (), {}, [window], (window.plan(), ()), Window, object(), window.deeds(), len(window),
        )
        for other in others:
            self.unlike(window, other)
            self.unlike(Window(1, 1), other)

    def test_models(self):
        rows = [self.done(seed) for seed in range(12)]
        for window, model in rows:
            for other, other_model in rows:
                same = (model.plan(), model.gone()) == (other_model.plan(), other_model.gone())
                self.assertIs(window == other, same)
                self.assertIs(window != other, not same)

    def done(self, seed):
        window, model = Window(1, 1), Model(bare(1, 1))
        for word, *numbers in some_deeds(1, 1, 6, seed):
            if not isinstance(model.do((word, *numbers)), list):
                getattr(window, word)(*numbers)
        return window, model


class Lengths(Refusals):
    def test_leads_within(self):
        window = Window(3, 3)
        self.same(len(window), 0)
        window.lay(0, 0, 1, 3)
        self.same(len(window), 3)
        window.lay(1, 1, 0)
        self.same(len(window), 4)
        window.glaze(0)
        self.same(len(window), 4)
        window.pull(3, 3, 5, 2)
        self.same(len(window), 2)
        window.undo()
        self.same(len(window), 4)

    def test_texts(self):
        for plan in list(glassy_plans())[::5] + [NESTED, DIAMOND, CROSS]:
            window = window_as(plan)
            self.same(len(window), len(plan[2]))
            self.same(repr(window), "Window " + code(plan))
            self.same(str(window), drawing(plan))
        self.same(repr(Window(1, 1)), "Window 1x1 00.00 0000")
        self.same(str(Window(2, 1)), "+-+-+\n|   |\n+-+-+")
        self.same(f"{Window(1, 1)}", "+-+\n| |\n+-+")


class LostAndBought(Refusals):
    def test_colours_apart(self):
        window = Window(3, 1)
        window.lay(1, 0, 2)
        window.lay(2, 0, 2)
        for quarter, colour in ((0, 1), (4, 9), (8, 1)):
            window.glaze(quarter, colour)
        window.pull(1, 0, 2)
        self.same([window.lost(colour) for colour in COLOURS], [4] + [0] * 7 + [4])
        self.same([window.bought(colour) for colour in COLOURS], [8] + [0] * 7 + [4])
        self.same([window.lost(colour=9), window.bought(colour=1)], [4, 8])
        window.glaze(0, 9)
        self.same([window.lost(9), window.bought(9)], [4, 12])
        window.shatter(3)
        self.same([window.lost(9), window.bought(9)], [12, 12])
        window.undo()
        self.same([window.lost(9), window.bought(9)], [4, 12])
        window.redo()
        self.same([window.lost(9), window.bought(9)], [12, 12])

    def test_of_a_code_with_glass(self):
        window = window_of("2x1 040.000 33335555")
        self.same([window.lost(3), window.bought(3), window.bought(5)], [0, 4, 4])
        window.pull(1, 0, 2)
        self.same([window.lost(3), window.bought(3), window.lost(5)], [4, 4, 4])


class Twins(Refusals):
    def window(self):
        window = Window(3, 2)
        window.lay(1, 0, 2, 2)
        window.glaze(0, 2)
        window.shatter(0)
        window.glaze(0, 3)
        window.lay(0, 1, 0)
        window.undo()
        return window

    def test_equal_with_the_same_to_take_back_and_to_do_again(self):
        window = self.window()
        twin = window.twin()
        self.assertIs(type(twin), Window)
        self.assertIs(twin == window, True)
        self.assertIsNot(twin, window)
        self.same(all_of(twin), all_of(window))
        self.same(twin.redo(), ("lay", 0, 1, 0, 1))
        for _ in range(5):
            twin.undo()
        self.refused(NothingLeft, twin.undo)

    def test_each_goes_its_own_way(self):
        steps = (
            lambda window: window.lay(2, 0, 2), lambda window: window.pull(1, 0, 2),
            lambda window: window.glaze(4), lambda window: window.shatter(0),
            lambda window: window.undo(), lambda window: window.redo(),
        )
        for step in steps:
            window = self.window()
            twin = window.twin()
            third = twin.twin()
            kept = all_of(window)
            step(twin)
            self.same([all_of(window), all_of(third)], [kept, kept])
            self.assertNotEqual(all_of(twin), kept)
            step(window)
            self.same(all_of(window), all_of(twin))
            self.same(all_of(third), kept)

    def test_twins_of_twins(self):
        window = self.window()
        row = [window]
        for _ in range(5):
            row.append(row[-1].twin())
        kept = all_of(window)
        row[2].redo()
        row[4].undo()
        self.same([all_of(row[at]) for at in (0, 1, 3, 5)], [kept] * 4)
        self.same(row[2].deeds()[-1], ("lay", 0, 1, 0, 1))
        self.same(row[4].deeds()[-1], ("shatter", 0))

    def test_two_beside_one_another(self):
        one, other = Window(2, 2), Window(2, 2)
        one.lay(1, 1, 0)
        self.same(other.plan(), bare(2, 2))
        self.refused(NothingLeft, other.undo)
        other.glaze(0)
        one.undo()
        self.same([one.deeds(), other.deeds()], [[], [("glaze", 0, 1)]])
        self.refused(NothingLeft, other.redo)


class WindowOf(Refusals):
    def test_stands_as_told(self):
        for plan in list(glassy_plans())[::6] + [NESTED, bare(9, 9), bare(1, 1)]:
            window = window_of(code(plan))
            self.assertIs(type(window), Window)
            self.same(window.plan(), plan)
            self.same([window.deeds(), len(window)], [[], len(plan[2])])
            for colour in COLOURS:
                self.same([window.lost(colour), window.bought(colour)], [0, plan[3].count(colour)])
            self.refused(NothingLeft, window.undo)
            self.refused(NothingLeft, window.redo)
        self.same(window_of(text="1x1 20.00 1122").plan(), (1, 1, ((0, 0, 1),), (1, 1, 2, 2)))

    def test_deeds_are_taken_back_to_it_and_no_further(self):
        window = window_of("1x1 20.00 1122")
        self.same(window.pull(0, 0, 1), (-1, 0))
        self.same(window.glaze(0, 3), 4)
        self.same([window.lost(1), window.lost(2), window.bought(3)], [2, 2, 4])
        self.same(window.undo(), ("glaze", 0, 3))
        self.same(window.undo(), ("pull", 0, 0, 1, 1))
        self.refused(NothingLeft, window.undo)
        self.same(code(window.plan()), "1x1 20.00 1122")
        self.same(window.redo(), ("pull", 0, 0, 1, 1))

    def test_a_twin_of_it(self):
        window = window_of("1x1 20.00 1122")
        window.shatter(0)
        twin = window.twin()
        self.same(twin.undo(), ("shatter", 0))
        self.same(code(twin.plan()), "1x1 20.00 1122")
        self.refused(NothingLeft, twin.undo)
        self.same(window.deeds(), [("shatter", 0)])

    def test_bad_texts(self):
        texts = (
            "", "1x1", "1x1 00.00 0001", "1x1 10.00 0000", "1x1 28.00 0000", "0x1 0.0 ",
            "1x1 00.00 0000\n", "Window 1x1 00.00 0000", "+-+\n| |\n+-+", "1 1\n",
        )
        for text in texts:
            self.refused_at(0, BadText, window_of, text)
            self.refused_at(0, BadText, window_of, text=text)


class Models(Refusals):
    """Many deeds, against a window kept another way."""

    def checked(self, window, model, asked, told):
        """That a method tells or refuses as the model does."""
        if isinstance(told, list):
            try:
                asked()
            except Exception as error:
                at = [error.at] if hasattr(error, "at") else []
                self.assertEqual([type(error).__name__, *at], told)
                return
            self.fail("nothing was refused")
        self.same(asked(), told)

    def compared(self, window, model):
        self.same([window.plan(), window.deeds()], [model.plan(), model.deeds()])
        for colour in COLOURS:
            lost = model.lost(colour)
            self.assertEqual(window.lost(colour), lost)
            self.assertEqual(window.bought(colour), lost + model.plan()[3].count(colour))

    def gone_through(self, window, model, many, seed):
        chance = random.Random(seed)
        width, height = model.plan()[:2]
        for word, *numbers in some_deeds(width, height, many, seed):
            told = model.do((word, *numbers))
            self.checked(window, model, lambda: getattr(window, word)(*numbers), told)
            for method in ("undo", "undo", "redo"):
                if chance.random() < 0.08:
                    self.checked(window, model, getattr(window, method), getattr(model, method)())
            self.compared(window, model)

    def test_from_the_frame_alone(self):
        for seed, (width, height) in enumerate(((1, 1), (2, 2), (3, 2), (4, 4), (1, 9), (9, 9))):
            self.gone_through(Window(width, height), Model(bare(width, height)), 250, seed)

    def test_from_codes(self):
        for seed, plan in enumerate(list(glassy_plans())[::16]):
            self.gone_through(window_as(plan), Model(plan), 40, 100 + seed)

    def test_until_it_is_full(self):
        window, model = Window(3, 3), Model(bare(3, 3))
        for word, *numbers in some_deeds(3, 3, 900, 5):
            told = model.do((word, *numbers))
            self.checked(window, model, lambda: getattr(window, word)(*numbers), told)
        self.assertEqual(len(window.deeds()), 200)
        self.compared(window, model)


class ToldAnew(Refusals):
    def test_lists(self):
        window = Window(2, 2)
        window.lay(1, 1, 0)
        self.told_anew(window.deeds)
        window.deeds().clear()
        self.same(window.undo(), ("lay", 1, 1, 0, 1))

    def test_a_told_plan_stays(self):
        window = Window(2, 2)
        plan = window.plan()
        window.lay(1, 1, 0)
        window.glaze(0)
        self.same(plan, bare(2, 2))


if __name__ == "__main__":
    unittest.main()
