"""leadlight.desk: windows by their numbers, and lines that ask and answer."""

import random
import unittest

from helper import (
    COLOURS, CROSS, DIAMOND, MOVES, NESTED, SIGNS, VERY_GREAT, Model, Raster, Refusals,
    count_pieces, mixed, some_deeds,
)
from leadlight.code import code
from leadlight.deeds import deed_text
from leadlight.desk import Desk
from leadlight.errors import NothingLeft, NoWindow
from leadlight.plans import bare
from leadlight.window import Window

# The first words of lines, and how many numbers come behind them.
WORDS = {
    "open": 2, "copy": 1, "undo": 1, "redo": 1, "code": 1, "leads": 1, "panes": 1, "pieces": 1,
    "strips": 1, "hues": 1, "size": 2, "lost": 2, "way": 3,
}
DEEDS = {"lay": 4, "pull": 4, "glaze": 2, "shatter": 1}

# Lines that ask for something and change nothing, of window 1.
QUESTIONS = (
    "code 1", "leads 1", "panes 1", "pieces 1", "strips 1", "hues 1", "size 1 0", "lost 1 1",
    "way 1 0 1",
)


def codes(desk):
    """What each window stands as, with what was lost and what can be taken back."""
    rows = []
    for number in range(1, len(desk) + 1):
        window = desk.window(number)
        lost = [window.lost(colour) for colour in COLOURS]
        rows.append([window.plan(), window.deeds(), lost, done_again(window)])
    return rows


def done_again(window):
    """The deeds that could be done again."""
    rows = []
    try:
        while True:
            rows.append(window.redo())
    except NothingLeft:
        return rows


def lines_of(plan):
    """The lines that lay a plan in window 1 and set its glass."""
    width, height, within, glass = plan
    rows = [f"open {width} {height}"] + [f"1 lay {x} {y} {turn} 1" for x, y, turn in within]
    for pane in sorted(set(Raster(plan).names)):
        if glass[pane]:
            rows.append(f"1 glaze {pane} {glass[pane]}")
    return rows


def desk_with(plan):
    """A desk whose first window stands as a plan."""
    desk = Desk()
    for line in lines_of(plan):
        desk.say(line)
    return desk


class Lines(Refusals):
    def said(self, desk, *rows):
        """That each line is answered so."""
        for line, told in rows:
            with self.subTest(line=line):
                self.same(desk.say(line), told)

    def says_nothing_new(self, desk, *rows):
        """That each line is answered so, and changes nothing."""
        kept = codes(desk)
        self.said(desk, *rows)
        self.same([len(desk), codes(desk)], [len(kept), kept])


class Opened(Lines):
    def test_numbers_rise(self):
        desk = Desk()
        self.same(len(desk), 0)
        for number in range(1, 7):
            self.same(desk.say(f"open {number} {10 - number}"), str(number))
            self.same(len(desk), number)
        for number in range(1, 7):
            self.same(desk.window(number).plan(), bare(number, 10 - number))

    def test_bad_sizes(self):
        desk = Desk()
        for side in (0, 10, 11, 99, 100, 999):
            self.says_nothing_new(
                desk, (f"open {side} 3", "refused badsize"), (f"open 3 {side}", "refused badsize")
            )

    def test_a_seventh(self):
        desk = Desk()
        for _ in range(6):
            desk.say("open 2 2")
        self.says_nothing_new(
            desk,
            ("open 2 2", "refused full"), ("copy 1", "refused full"), ("copy 6", "refused full"),
            ("open 0 2", "refused badsize"), ("open 2 10", "refused badsize"),
            ("copy 0", "refused nowindow"), ("copy 7", "refused nowindow"),
            ("open 02 2", "no line"), ("copy", "no line"),
        )
        self.same(len(desk), 6)

    def test_by_name(self):
        desk = Desk()
        self.same(desk.say(line="open 2 1"), "1")
        self.same(desk.window(number=1).plan(), bare(2, 1))


class Copied(Lines):
    def test_a_twin(self):
        desk = desk_with(DIAMOND)
        self.said(desk, ("1 glaze 0 3", "2"), ("undo 1", "glaze 0 3"), ("copy 1", "2"))
        self.same(len(desk), 2)
        self.same(codes(desk)[0], codes(desk)[1])
        self.said(desk, ("redo 2", "glaze 0 3"), ("2 shatter 0", "3"), ("lost 2 3", "2"))
        self.said(desk, ("lost 1 3", "0"), ("redo 1", "glaze 0 3"), ("redo 1", "refused nothingleft"))
        self.said(desk, ("copy 2", "3"), ("lost 3 3", "2"), ("undo 3", "shatter 0"), ("lost 2 3", "2"))

    def test_no_window(self):
        desk = Desk()
        self.says_nothing_new(desk, ("copy 0", "refused nowindow"), ("copy 1", "refused nowindow"))
        desk.say("open 1 1")
        self.says_nothing_new(desk, ("copy 2", "refused nowindow"), ("copy 999", "refused nowindow"))


class DeedLines(Lines):
    def test_what_each_tells(self):
        self.said(
            Desk(),
            ("open 3 2", "1"),
            ("1 lay 1 0 2 2", "1 0"),
            ("1 lay 1 1 0 1", "0 0"),
            ("1 glaze 0 4", "8"),
            ("1 glaze 4 1", "16"),
            ("1 pull 1 0 2 2", "-1 1"),
            ("1 pull 1 1 0 1", "0 -1"),
            ("lost 1 4", "8"),
            ("lost 1 1", "16"),
            ("1 glaze 23 9", "24"),
            ("1 shatter 3", "9"),
            ("code 1", "3x2 0000.0000.0000 " + "0" * 24),
        )

    def test_each_refusal(self):
        desk = Desk()
        self.said(desk, ("open 3 3", "1"), ("1 lay 0 0 1 2", "0 0"), ("1 glaze 0 2", "36"))
        self.says_nothing_new(
            desk,
            ("1 lay 4 0 0 1", "refused badpoint"), ("1 lay 0 4 8 0", "refused badpoint"),
            ("1 lay 0 0 8 0", "refused badturn"), ("1 lay 0 0 4 0", "refused badmany"),
            ("1 lay 0 0 4 10", "refused badmany"), ("1 lay 0 0 4 1", "refused off 0"),
            ("1 lay 0 0 1 4", "refused off 3"), ("1 lay 0 0 1 1", "refused taken 0"),
            ("1 lay 3 3 5 3", "refused taken 1"), ("1 lay 0 0 0 1", "refused taken 0"),
            ("1 lay 1 0 3 1", "refused crossing 0"), ("1 lay 3 0 3 2", "refused crossing 1"),
            ("1 pull 4 0 0 1", "refused badpoint"), ("1 pull 0 0 9 9", "refused badturn"),
            ("1 pull 0 0 1 0", "refused badmany"), ("1 pull 0 0 1 9", "refused off 3"),
            ("1 pull 0 0 2 1", "refused framed 0"), ("1 pull 1 1 4 1", "refused nolead 0"),
            ("1 pull 0 0 1 3", "refused nolead 2"),
            ("1 glaze 36 0", "refused badquarter"), ("1 glaze 0 0", "refused badcolour"),
            ("1 glaze 0 10", "refused badcolour"), ("1 glaze 35 1", "refused glazed"),
            ("1 shatter 36", "refused badquarter"), ("1 shatter 999", "refused badquarter"),
        )
        self.said(desk, ("1 shatter 0", "2"), ("1 shatter 0", "refused noglass"))

    def test_full(self):
        desk = Desk()
        desk.say("open 1 1")
        for _ in range(100):
            self.same(desk.say("1 lay 0 0 1 1"), "1 0")
            self.same(desk.say("1 pull 0 0 1 1"), "-1 0")
        self.says_nothing_new(
            desk,
            ("1 lay 0 0 1 1", "refused full"), ("1 glaze 0 1", "refused full"),
            ("1 lay 0 0 0 1", "refused taken 0"), ("1 glaze 4 1", "refused badquarter"),
        )
        self.said(desk, ("undo 1", "pull 0 0 1 1"), ("1 glaze 0 1", "2"), ("1 glaze 2 1", "refused full"))

    def test_windows_that_are_not_there(self):
        desk = Desk()
        self.says_nothing_new(
            desk, ("1 lay 0 0 1 1", "refused nowindow"), ("0 glaze 0 1", "refused nowindow")
        )
        desk.say("open 1 1")
        # Whatever else is wrong, the number comes first.
        self.says_nothing_new(
            desk,
            ("0 lay 0 0 1 1", "refused nowindow"), ("2 lay 0 0 1 1", "refused nowindow"),
            ("2 lay 9 9 9 0", "refused nowindow"), ("999 shatter 0", "refused nowindow"),
            ("7 glaze 99 99", "refused nowindow"), ("6 pull 0 0 0 1", "refused nowindow"),
        )

    def test_each_window_by_its_own_number(self):
        desk = Desk()
        for _ in range(3):
            desk.say("open 1 1")
        self.said(desk, ("2 lay 0 0 1 1", "1 0"), ("3 lay 1 0 3 1", "1 0"))
        self.said(
            desk, ("code 1", "1x1 00.00 0000"), ("code 2", "1x1 20.00 0000"), ("code 3", "1x1 08.00 0000")
        )


class BackAndForth(Lines):
    def test_they_tell_the_deeds_line(self):
        desk = Desk()
        self.said(
            desk,
            ("open 2 1", "1"),
            ("undo 1", "refused nothingleft"), ("redo 1", "refused nothingleft"),
            ("1 lay 1 1 6 1", "1 0"), ("1 glaze 0 3", "4"), ("1 shatter 1", "3"),
            ("1 pull 1 0 2 1", "-1 0"),
            ("undo 1", "pull 1 0 2 1"), ("undo 1", "shatter 1"), ("lost 1 3", "0"),
            ("undo 1", "glaze 0 3"), ("undo 1", "lay 1 1 6 1"), ("undo 1", "refused nothingleft"),
            ("redo 1", "lay 1 1 6 1"), ("redo 1", "glaze 0 3"), ("redo 1", "shatter 1"),
            ("lost 1 3", "4"), ("redo 1", "pull 1 0 2 1"), ("redo 1", "refused nothingleft"),
        )

    def test_only_deeds_let_go_what_could_be_done_again(self):
        desk = Desk()
        self.said(desk, ("open 2 2", "1"), ("1 lay 1 1 0 1", "0 0"), ("undo 1", "lay 1 1 0 1"))
        for line in QUESTIONS + ("copy 1", "open 1 1", "nonsense", "1 lay 0 0 0 1", "undo 1", "2 glaze 0 1"):
            desk.say(line)
        self.said(desk, ("redo 1", "lay 1 1 0 1"), ("undo 1", "lay 1 1 0 1"), ("1 glaze 0 1", "16"))
        self.said(desk, ("redo 1", "refused nothingleft"))

    def test_no_window(self):
        desk = Desk()
        desk.say("open 1 1")
        self.says_nothing_new(
            desk,
            ("undo 0", "refused nowindow"), ("undo 2", "refused nowindow"),
            ("redo 0", "refused nowindow"), ("redo 2", "refused nowindow"),
        )


class Questions(Lines):
    def test_written_out(self):
        self.says_nothing_new(
            desk_with(NESTED),
            ("code 1", code(NESTED)), ("leads 1", "13"), ("panes 1", "2"), ("pieces 1", "3"),
            ("strips 1", "3"), ("hues 1", "odd 2 2, 3 2"), ("size 1 0", "64"), ("size 1 48", "36"),
            ("way 1 0 48", "1"), ("way 1 48 0", "1"), ("way 1 0 1", "0"), ("lost 1 1", "0"),
        )
        self.says_nothing_new(
            desk_with(DIAMOND),
            ("hues 1", "0 0, 1 1, 4 0, 10 0, 13 0"), ("size 1 3", "2"), ("size 1 15", "8"),
            ("way 1 0 5", "2"), ("way 1 3 1", "1"), ("panes 1", "5"), ("strips 1", "1"),
        )
        self.says_nothing_new(
            desk_with(CROSS),
            ("hues 1", "odd 1 1, 2 1, 2 3, 4 1, 4 3"), ("pieces 1", "2"), ("leads 1", "10"),
        )

    def test_new_windows(self):
        desk = Desk()
        desk.say("open 2 1")
        self.says_nothing_new(
            desk,
            ("code 1", "2x1 000.000 00000000"), ("leads 1", "0"), ("panes 1", "1"), ("pieces 1", "1"),
            ("strips 1", "1"), ("hues 1", "0 0"), ("size 1 7", "8"), ("lost 1 9", "0"), ("way 1 0 7", "0"),
        )

    def test_boards_of_all_kinds(self):
        for seed in range(8):
            plan = mixed(3 + seed % 3, 2 + seed % 4, 20 + 7 * seed, seed)
            desk = desk_with(plan)
            raster = Raster(plan)
            names, near = raster.names, raster.near()
            last = len(names) - 1
            self.says_nothing_new(
                desk,
                ("code 1", code(plan)), ("leads 1", str(len(plan[2]))),
                ("panes 1", str(len(near))), ("pieces 1", str(count_pieces(plan))),
                (f"size 1 {last}", str(names.count(names[last]))),
                (f"way 1 0 {last}", str(self.away(near, 0, names[last]))),
                ("strips 1", str(self.fewest(raster))), ("hues 1", self.hues(raster, near)),
            )

    def away(self, near, one, other):
        reached, many = {one}, 0
        while other not in reached:
            reached |= {beyond for pane in reached for beyond, name in near[pane]}
            many += 1
        return many

    def met(self, raster):
        """For each point how many leads meet there."""
        met = {}
        for x, y, turn in raster.both_ways():
            met[x, y] = met.get((x, y), 0) + 1
        return met

    def fewest(self, raster):
        """Strips of pieces that are found by going from point to point."""
        met, sides = self.met(raster), list(raster.both_ways())
        points, total = set(met), 0
        while points:
            piece, waiting = set(), [min(points)]
            while waiting:
                here = waiting.pop()
                if here not in piece:
                    piece.add(here)
                    waiting += [
                        (x + MOVES[turn][0], y + MOVES[turn][1])
                        for x, y, turn in sides if (x, y) == here
                    ]
            points -= piece
            total += max(1, sum(met[point] % 2 for point in piece) // 2)
        return total

    def hues(self, raster, near):
        inner = [
            (x, y) for (x, y), many in sorted(self.met(raster).items())
            if many % 2 and 0 < x < raster.width and 0 < y < raster.height
        ]
        if inner:
            return "odd " + ", ".join(f"{x} {y}" for x, y in inner)
        return ", ".join(f"{pane} {self.away(near, 0, pane) % 2}" for pane in sorted(near))

    def test_lost(self):
        desk = Desk()
        self.said(
            desk, ("open 1 1", "1"), ("1 glaze 0 7", "4"), ("1 shatter 0", "7"), ("1 glaze 0 7", "4"),
            ("1 shatter 2", "7"), ("lost 1 7", "8"), ("lost 1 6", "0"),
            ("lost 1 0", "refused badcolour"), ("lost 1 10", "refused badcolour"),
            ("lost 1 999", "refused badcolour"),
        )

    def test_quarters_that_are_not_there(self):
        desk = Desk()
        desk.say("open 2 2")
        self.says_nothing_new(
            desk,
            ("size 1 16", "refused badquarter"), ("size 1 999", "refused badquarter"),
            ("way 1 16 0", "refused badquarter"), ("way 1 0 16", "refused badquarter"),
            ("way 1 16 16", "refused badquarter"), ("way 1 0 15", "0"),
        )

    def test_windows_that_are_not_there(self):
        desk = Desk()
        for word, many in WORDS.items():
            if word != "open":
                for number in (0, 1, 2, 6, 7, 10, 999):
                    line = " ".join([word, str(number)] + ["999"] * (many - 1))
                    self.says_nothing_new(desk, (line, "refused nowindow"))
        desk.say("open 2 2")
        for line in QUESTIONS:
            word, number, *rest = line.split(" ")
            for other in ("0", "2", "11", "999"):
                self.says_nothing_new(desk, (" ".join([word, other, *rest]), "refused nowindow"))


class NoLines(Lines):
    def desk(self):
        desk = Desk()
        for line in ("open 2 2", "open 3 3", "1 lay 1 1 0 1", "1 glaze 0 1", "undo 1"):
            desk.say(line)
        return desk

    def none(self, *lines):
        self.says_nothing_new(self.desk(), *[(line, "no line") for line in lines])

    def test_empty_and_blank(self):
        self.none("", " ", "  ", "\n", "0", "1", "1 ", " 1", "2 2")

    def test_other_words(self):
        self.none("Open 2 2", "OPEN 2 2", "close 1", "plan 1", "bought 1 1", "deeds 1", "draw 1", "page 1")
        self.none("window 1", "twin 1", "opened 2 2", "lay 0 0 1 1", "glaze 0 1", "shatter 0", "no line", "refused")

    def test_too_many_or_too_few_numbers(self):
        for word, many in WORDS.items():
            for other in range(7):
                if other != many:
                    self.none(" ".join([word] + ["1"] * other))
        for word, many in DEEDS.items():
            for other in range(7):
                if other != many:
                    self.none(" ".join(["1", word] + ["1"] * other))

    def test_numbers_that_are_not_written_so(self):
        for wrong in ("01", "00", "001", "1000", "0001", "-1", "+1", "1.0", "a", "", "x1", "1,", "1\n", "9" * 60):
            for word, many in WORDS.items():
                for at in range(many):
                    numbers = ["1"] * many
                    numbers[at] = wrong
                    self.none(" ".join([word] + numbers))
            for word, many in DEEDS.items():
                self.none(" ".join([wrong, word] + ["1"] * many))
                for at in range(many):
                    numbers = ["1"] * many
                    numbers[at] = wrong
                    self.none(" ".join(["1", word] + numbers))

    def test_ahead_of_all_else(self):
        # Neither a window that isn't there nor a bad size comes ahead of how numbers are written.
        self.none("9 lay 0 0 1 01", "9 lays 0 0 1 1", "open 0 01", "size 9 01", "copy 09", "way 9 0 1000")
        self.none("9 shatter", "9 undo", "9", "0 glaze 1")

    def test_blanks_and_line_feeds(self):
        good = list(QUESTIONS) + ["open 1 1", "copy 1", "undo 1", "redo 1", "1 lay 0 0 1 1", "1 glaze 0 2"]
        for line in good:
            self.none(" " + line, line + " ", line.replace(" ", "  ", 1), line + "\n", "\n" + line)
            self.none(line.replace(" ", "\n", 1), line + "\n" + line, line.replace(" ", "", 1))

    def test_deeds_without_a_window_or_behind_another_word(self):
        self.none("1 1 lay 0 0 1 1", "lay 1 0 0 1 1", "undo 1 1", "1 undo", "1 open 1 1", "1 code", "1 copy 1")

    def test_each_sign_put_in_and_changed(self):
        desk = Desk()
        desk.say("open 9 9")
        for line in ("size 1 10", "1 shatter 100", "lost 1 5"):
            for at in range(len(line) + 1):
                for sign in SIGNS + "\n":
                    for text in (line[:at] + sign + line[at:], line[:at] + sign + line[at + 1:]):
                        with self.subTest(text=text):
                            self.assertIs(desk.say(text) == "no line", not is_line(text))


def is_line(text):
    """Whether a text is a line, looked at word by word."""
    words = text.split(" ")
    numbers = [str(number) for number in range(1000)]
    if words[0] in numbers:
        many, rest = DEEDS.get(words[1] if len(words) > 1 else ""), words[2:]
    else:
        many, rest = WORDS.get(words[0]), words[1:]
    return many == len(rest) and all(word in numbers for word in rest)


class ToldWindows(Lines):
    def test_left_out_it_is_the_first(self):
        desk = Desk()
        desk.say("open 2 1")
        desk.say("open 1 2")
        self.assertIs(type(desk.window()), Window)
        self.same(desk.window().plan(), bare(2, 1))
        self.same(desk.window(1).plan(), bare(2, 1))
        self.same(desk.window(2).plan(), bare(1, 2))
        self.same(desk.window(number=2).plan(), bare(1, 2))

    def test_no_window(self):
        desk = Desk()
        self.refused(NoWindow, desk.window)
        self.refused(NoWindow, desk.window, 1)
        desk.say("open 1 1")
        for number in (0, -1, 2, 7, -7) + VERY_GREAT:
            self.refused(NoWindow, desk.window, number)
            self.refused(NoWindow, desk.window, number=number)
        self.same(len(desk), 1)

    def test_it_stays_as_it_is_over_the_next_lines(self):
        desk = desk_with(DIAMOND)
        window = desk.window()
        kept = [window.plan(), window.deeds(), repr(window)]
        for line in ("1 glaze 0 1", "1 pull 1 0 3 1", "undo 1", "undo 1", "undo 1"):
            desk.say(line)
        self.same([window.plan(), window.deeds(), repr(window)], kept)
        self.assertIs(window == desk.window(), False)

    def test_what_is_done_in_it_changes_nothing_at_the_desk(self):
        desk = desk_with(DIAMOND)
        kept = codes(desk)
        window = desk.window()
        window.glaze(0)
        window.pull(1, 0, 3)
        window.undo()
        self.same(codes(desk), kept)
        self.same(desk.say("redo 1"), "refused nothingleft")

    def test_a_twin_with_the_same_to_take_back_and_to_do_again(self):
        desk = Desk()
        for line in ("open 2 2", "1 lay 1 1 0 1", "1 glaze 0 4", "undo 1"):
            desk.say(line)
        window = desk.window()
        self.same(window.redo(), ("glaze", 0, 4))
        self.same(window.undo(), ("glaze", 0, 4))
        self.same(window.undo(), ("lay", 1, 1, 0, 1))

    def test_two_desks(self):
        one, other = Desk(), Desk()
        one.say("open 1 1")
        self.same([len(one), len(other)], [1, 0])
        self.same(other.say("code 1"), "refused nowindow")


class Models(Lines):
    """Many lines, against windows kept another way."""

    def test_many_lines(self):
        chance = random.Random(4)
        desk, models = Desk(), []
        for number in range(1, 7):
            desk.say(f"open {number} {1 + number // 2}")
            models.append(Model(bare(number, 1 + number // 2)))
        for seed in range(25):
            for at, model in enumerate(models):
                for deed in some_deeds(*model.plan()[:2], 4, 10 * seed + at):
                    if min(deed[1:]) >= 0:
                        self.same(desk.say(f"{at + 1} {deed_text(deed)}"), self.line(model.do(deed)))
                    if chance.random() < 0.2:
                        self.same(desk.say(f"undo {at + 1}"), self.line(model.undo()))
                    if chance.random() < 0.1:
                        self.same(desk.say(f"redo {at + 1}"), self.line(model.redo()))
        for at, model in enumerate(models):
            self.same(desk.say(f"code {at + 1}"), code(model.plan()))
            self.same(desk.window(at + 1).deeds(), model.deeds())
            for colour in COLOURS:
                self.same(desk.say(f"lost {at + 1} {colour}"), str(model.lost(colour)))

    def line(self, told):
        if isinstance(told, list):
            return " ".join(["refused", *[str(one).lower() for one in told]])
        if isinstance(told, tuple):
            return " ".join(map(str, told))
        return str(told)


if __name__ == "__main__":
    unittest.main()
