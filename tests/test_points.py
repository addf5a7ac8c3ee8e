"""leadlight.points: turns, steps, and the leads of a board."""

import unittest

from helper import BAD_SIDES, BAD_TURNS, GREAT, MOVES, OPPOSITE, SIZES, Refusals
from leadlight.errors import BadSize, BadTurn
from leadlight.points import all_leads, back, ends, frame, is_frame, lead, over, step

POINTS = (
    (0, 0), (1, 0), (0, 1), (3, 7), (-1, -1), (-4, 6), (9, 9),
    (GREAT, -GREAT), (-GREAT, GREAT), (GREAT, GREAT), (12345678901234567890, -5),
)
MANIES = (0, 1, 2, 9, -1, -2, -9, 200, GREAT, -GREAT)


def leads_by_hand(width, height):
    """The leads of a board, kind by kind, in rising order."""
    found = [(x, y, 0) for x in range(width) for y in range(height + 1)]
    found += [(x, y, 1) for x in range(width) for y in range(height)]
    found += [(x, y, 2) for x in range(width + 1) for y in range(height)]
    found += [(x + 1, y, 3) for x in range(width) for y in range(height)]
    return sorted(found)


def frame_by_hand(width, height):
    """The rim's four sides, in rising order."""
    above = [(x, 0, 0) for x in range(width)]
    below = [(x, height, 0) for x in range(width)]
    at_left = [(0, y, 2) for y in range(height)]
    at_right = [(width, y, 2) for y in range(height)]
    return sorted(above + below + at_left + at_right)


class Back(Refusals):
    def test_opposite_turns(self):
        for turn, opposite in OPPOSITE.items():
            self.assertEqual(back(turn), opposite)
            self.assertEqual(back(turn=turn), opposite)

    def test_bad_turns(self):
        for turn in BAD_TURNS:
            self.refused(BadTurn, back, turn)
            self.refused(BadTurn, back, turn=turn)


class Step(Refusals):
    def test_one_step_where_many_is_left_out(self):
        for x, y in POINTS:
            for turn, (right, down) in MOVES.items():
                self.assertEqual(step(x, y, turn), (x + right, y + down))
                self.assertEqual(step(x=x, y=y, turn=turn), (x + right, y + down))

    def test_many_steps_by_place_and_by_name(self):
        for x, y in POINTS:
            for turn, (right, down) in MOVES.items():
                for many in MANIES:
                    there = (x + many * right, y + many * down)
                    self.assertEqual(step(x, y, turn, many), there)
                    self.assertEqual(step(x, y, turn, many=many), there)
                    self.assertEqual(step(many=many, turn=turn, y=y, x=x), there)

    def test_a_point_is_a_tuple(self):
        self.assertIs(type(step(0, 0, 0)), tuple)

    def test_bad_turns(self):
        for turn in BAD_TURNS:
            self.refused(BadTurn, step, 0, 0, turn)
            self.refused(BadTurn, step, 0, 0, turn, 0)
            self.refused(BadTurn, step, GREAT, -GREAT, turn, -GREAT)
            self.refused(BadTurn, step, x=0, y=0, turn=turn, many=3)


class Lead(Refusals):
    def test_turns_below_four_name_it_from_the_point(self):
        for x, y in POINTS:
            for turn in range(4):
                self.assertEqual(lead(x, y, turn), (x, y, turn))
                self.assertEqual(lead(x=x, y=y, turn=turn), (x, y, turn))

    def test_other_turns_name_it_from_the_far_end(self):
        for x, y in POINTS:
            self.assertEqual(lead(x, y, 4), (x - 1, y, 0))
            self.assertEqual(lead(x, y, 5), (x - 1, y - 1, 1))
            self.assertEqual(lead(x, y, 6), (x, y - 1, 2))
            self.assertEqual(lead(x, y, 7), (x + 1, y - 1, 3))
            self.assertEqual(lead(x=x, y=y, turn=7), (x + 1, y - 1, 3))

    def test_the_same_name_from_either_end(self):
        for x, y in POINTS:
            for turn, (right, down) in MOVES.items():
                from_here = lead(x, y, turn)
                self.assertEqual(lead(x + right, y + down, OPPOSITE[turn]), from_here)
                self.assertIs(type(from_here), tuple)
                self.assertIn(from_here[2], range(4))

    def test_bad_turns(self):
        for turn in BAD_TURNS:
            self.refused(BadTurn, lead, 0, 0, turn)
            self.refused(BadTurn, lead, GREAT, -GREAT, turn)
            self.refused(BadTurn, lead, x=1, y=2, turn=turn)


class Ends(Refusals):
    def test_first_that_from_which_it_is_named(self):
        for x, y in POINTS:
            for turn in range(4):
                right, down = MOVES[turn]
                told = ((x, y), (x + right, y + down))
                self.assertEqual(ends((x, y, turn)), told)
                self.assertEqual(ends(name=(x, y, turn)), told)

    def test_of_the_lead_by_any_turn(self):
        for x, y in POINTS:
            for turn, (right, down) in MOVES.items():
                here, there = (x, y), (x + right, y + down)
                told = (here, there) if turn < 4 else (there, here)
                self.assertEqual(ends(lead(x, y, turn)), told)

    def test_it_is_a_pair_of_pairs(self):
        told = ends((0, 0, 1))
        self.assertEqual([type(told), type(told[0]), type(told[1])], [tuple, tuple, tuple])

    def test_bad_turns(self):
        for turn in BAD_TURNS:
            self.refused(BadTurn, ends, (0, 0, turn))
            self.refused(BadTurn, ends, name=(GREAT, -GREAT, turn))


class Over(unittest.TestCase):
    def test_slants(self):
        for x, y in POINTS:
            self.assertEqual(over((x, y, 1)), (x + 1, y, 3))
            self.assertEqual(over((x, y, 3)), (x - 1, y, 1))
            self.assertEqual(over(name=(x, y, 3)), (x - 1, y, 1))

    def test_over_and_back(self):
        for x, y in POINTS:
            for turn in (1, 3):
                self.assertEqual(over(over((x, y, turn))), (x, y, turn))

    def test_both_go_through_one_cell(self):
        for width, height in ((1, 1), (2, 3), (5, 4)):
            for name in all_leads(width, height):
                if name[2] in (1, 3):
                    corners = set(ends(name)) | set(ends(over(name)))
                    x, y = min(corners)
                    self.assertEqual(corners, {(x, y), (x + 1, y), (x, y + 1), (x + 1, y + 1)})

    def test_leads_along_the_sides(self):
        for x, y in POINTS:
            self.assertIsNone(over((x, y, 0)))
            self.assertIsNone(over((x, y, 2)))
            self.assertIsNone(over(name=(x, y, 2)))


class IsFrame(Refusals):
    def test_each_lead_of_boards(self):
        for width, height in SIZES:
            rim = set(frame_by_hand(width, height))
            for name in leads_by_hand(width, height):
                with self.subTest(width=width, height=height, name=name):
                    self.assertIs(is_frame(width, height, name), name in rim)
                    self.assertIs(is_frame(width=width, height=height, name=name), name in rim)

    def test_bad_sizes(self):
        for side in BAD_SIDES:
            self.refused(BadSize, is_frame, side, 1, (0, 0, 0))
            self.refused(BadSize, is_frame, 1, side, (0, 0, 0))


class Lists(Refusals):
    def test_all_leads(self):
        for width, height in SIZES:
            self.assertEqual(all_leads(width, height), leads_by_hand(width, height))
            self.assertEqual(all_leads(height=height, width=width), leads_by_hand(width, height))

    def test_frame(self):
        for width, height in SIZES:
            self.assertEqual(frame(width, height), frame_by_hand(width, height))
            self.assertEqual(frame(height=height, width=width), frame_by_hand(width, height))

    def test_least_board_written_out(self):
        self.assertEqual(
            all_leads(1, 1),
            [(0, 0, 0), (0, 0, 1), (0, 0, 2), (0, 1, 0), (1, 0, 2), (1, 0, 3)],
        )
        self.assertEqual(frame(1, 1), [(0, 0, 0), (0, 0, 2), (0, 1, 0), (1, 0, 2)])

    def test_unlike_sides_written_out(self):
        self.assertEqual(
            all_leads(2, 1),
            [
                (0, 0, 0), (0, 0, 1), (0, 0, 2), (0, 1, 0),
                (1, 0, 0), (1, 0, 1), (1, 0, 2), (1, 0, 3), (1, 1, 0),
                (2, 0, 2), (2, 0, 3),
            ],
        )
        self.assertEqual(
            frame(2, 1),
            [(0, 0, 0), (0, 0, 2), (0, 1, 0), (1, 0, 0), (1, 1, 0), (2, 0, 2)],
        )

    def test_rising_and_none_twice(self):
        for width, height in SIZES:
            for told in (all_leads(width, height), frame(width, height)):
                self.assertIs(type(told), list)
                self.assertEqual(told, sorted(set(told)))
                self.assertEqual({type(name) for name in told}, {tuple})

    def test_a_told_list_is_a_new_one(self):
        for asked in (all_leads, frame):
            told = asked(2, 3)
            kept = list(told)
            told.clear()
            self.assertEqual(asked(2, 3), kept)
            asked(2, 3).append((0, 0, 0))
            self.assertEqual(asked(2, 3), kept)

    def test_bad_sizes(self):
        for asked in (all_leads, frame):
            for side in BAD_SIDES:
                self.refused(BadSize, asked, side, 1)
                self.refused(BadSize, asked, 9, side)
                self.refused(BadSize, asked, width=side, height=side)


if __name__ == "__main__":
    unittest.main()
