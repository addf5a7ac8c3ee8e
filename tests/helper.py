"""What several tests use."""

import copy
import random
import unittest

GREAT = 10**60 - 1

# One of 5,000 figures can't even be written out by Python's str.
VERY_GREAT = (GREAT, -GREAT, 10**5000, -(10**5000))

SIZES = tuple((width, height) for width in range(1, 10) for height in range(1, 10))
BAD_SIDES = (0, -1, -9, 10, 11) + VERY_GREAT

# The turns as the document tells them: right, right and down, down, and so on.
MOVES = {
    0: (1, 0), 1: (1, 1), 2: (0, 1), 3: (-1, 1),
    4: (-1, 0), 5: (-1, -1), 6: (0, -1), 7: (1, -1),
}
OPPOSITE = {0: 4, 1: 5, 2: 6, 3: 7, 4: 0, 5: 1, 6: 2, 7: 3}

# All signs that texts have, but for line feeds.
SIGNS = "".join(chr(sign) for sign in range(32, 127) if chr(sign) != "%")

BAD_TURNS = (-1, -2, -4, -7, -8, -9, 8, 9, 12, 15, 16) + VERY_GREAT

# Numbers that are neither a colour nor a stretch's length.
BAD_COLOURS = BAD_MANY = (0, -1, -9, 10, 11) + VERY_GREAT


def rim_of(width, height):
    found = [(x, y, 0) for x in range(width) for y in (0, height)]
    return found + [(x, y, 2) for x in (0, width) for y in range(height)]


def within_of(width, height):
    """The leads that a board can have within, in no order that matters."""
    found = [(x, y, 0) for x in range(width) for y in range(1, height)]
    found += [(x, y, 2) for x in range(1, width) for y in range(height)]
    found += [(x, y, 1) for x in range(width) for y in range(height)]
    return found + [(x + 1, y, 3) for x in range(width) for y in range(height)]


def cell_of(name):
    """The cell that a slant goes through, None for other leads."""
    x, y, turn = name
    return {1: (x, y), 3: (x - 1, y)}.get(turn)


def plan_of(width, height, within):
    return (width, height, tuple(sorted(within)), (0,) * (4 * width * height))


def drawn(*rows):
    """The plan without glass that a drawing of point [19] shows."""
    found = []
    for at, row in enumerate(rows):
        for place, sign in enumerate(row):
            x, y = place // 2, at // 2
            if sign in "-|\\/":
                found.append((x + 1, y, 3) if sign == "/" else (x, y, "-\\|".index(sign)))
    width, height = len(rows[0]) // 2, len(rows) // 2
    return plan_of(width, height, set(found) - set(rim_of(width, height)))


def not_crossing(names):
    """These leads without those that lie over one further ahead."""
    found, cells = [], set()
    for name in names:
        if cell_of(name) is None or cell_of(name) not in cells:
            found.append(name)
            cells.add(cell_of(name))
    return found


def some_leads(width, height, every):
    """Each so-many-th lead within, slants of both turns among them, none over another."""
    return not_crossing(sorted(within_of(width, height))[::every])


def good_plans():
    """Boards of all sizes with no leads within, some, and as many as can lie there."""
    for width, height in SIZES:
        yield plan_of(width, height, [])
        for every in (1, 2, 3, 7):
            yield plan_of(width, height, some_leads(width, height, every))


def mixed(width, height, share, seed, turns=(0, 1, 2, 3)):
    """A plan with about so many hundredths of the leads by these turns, always the same."""
    chance = random.Random(seed)
    names = [name for name in sorted(within_of(width, height)) if name[2] in turns]
    # Only `random` gives the same numbers in all versions of Python.
    ranks = {name: chance.random() for name in names}
    kept = sorted([name for name in names if ranks[name] * 100 < share], key=ranks.get)
    return plan_of(width, height, not_crossing(kept))


MIXED_SIZES = (
    (1, 1), (1, 9), (9, 1), (2, 2), (2, 3), (3, 2), (4, 4),
    (5, 3), (3, 6), (7, 7), (9, 8), (8, 9), (9, 9),
)


def mixed_plans():
    """Plans along sides, slantwise, of both, with few leads and with very many."""
    for seed, (width, height) in enumerate(MIXED_SIZES):
        yield plan_of(width, height, [])
        for share in (12, 35, 60, 85, 100):
            for turns in ((0, 1, 2, 3), (0, 2), (1, 3)):
                yield mixed(width, height, share, seed, turns)
    yield from BY_HAND


# A ring that stands free, and in it a lead that stands free.
NESTED = drawn(
    "+-+-+-+-+-+",
    "|         |",
    "+ +-+-+-+ +",
    "| |     | |",
    "+ + +-+ + +",
    "| |     | |",
    "+ + . . + +",
    "| |     | |",
    "+ +-+-+-+ +",
    "|         |",
    "+-+-+-+-+-+",
)

# Slants alone, which cut off the corners.
DIAMOND = drawn(
    "+-+-+",
    "|/ \\|",
    "+ . +",
    "|\\ /|",
    "+-+-+",
)

# A lead that hangs from the frame, a free cross of slants, and leads right across.
CROSS = drawn(
    "+-+-+-+-+-+",
    "| |       |",
    "+ + + . + +",
    "|    \\ /  |",
    "+ . . + . +",
    "|    / \\  |",
    "+ . + . + +",
    "|         |",
    "+-+-+-+-+-+",
    "|         |",
    "+-+-+-+-+-+",
)

BY_HAND = (NESTED, DIAMOND, CROSS)


def great_plans():
    """Boards of 8 or 9 cells either way with very many leads, and some with slants alone."""
    for width, height in ((9, 9), (8, 9), (9, 8), (8, 8)):
        names = sorted(within_of(width, height))
        yield plan_of(width, height, [name for name in names if name[2] != 3])
        yield plan_of(width, height, [name for name in names if name[2] != 1])
        yield plan_of(width, height, [name for name in names if name[2] in (0, 2)])
        yield plan_of(width, height, [name for name in names if name[2] == 1])
        # Slants in all cells, so that they lie round every other point.
        yield plan_of(width, height, [name for name in names if name[2] % 2 and sum(name) % 2])
        yield mixed(width, height, 100, 7)
        yield mixed(width, height, 95, 8)


class Raster:
    """A plan drawn on finer squares, four for a cell's side, and filled there.

    Leads are rows of squares, and one goes from square to square over sides alone,
    so that slants are as tight as other leads.
    """

    def __init__(self, plan):
        self.width, self.height, within, glass = plan
        self.leads = sorted(rim_of(self.width, self.height) + list(within))
        walls = set()
        for x, y, turn in self.leads:
            right, down = MOVES[turn]
            walls |= {(4 * x + many * right, 4 * y + many * down) for many in range(5)}
        self.panes = dict.fromkeys(walls)
        self.names = []
        for quarter in range(4 * self.width * self.height):
            square = self.square(quarter)
            if square not in self.panes:
                self.fill(square, quarter)
            self.names.append(self.panes[square])

    def square(self, quarter):
        """A square that is in a quarter and on no lead."""
        cell, part = divmod(quarter, 4)
        right, down = ((2, 1), (3, 2), (2, 3), (1, 2))[part]
        return (4 * (cell % self.width) + right, 4 * (cell // self.width) + down)

    def fill(self, square, pane):
        waiting = [square]
        while waiting:
            x, y = waiting.pop()
            if (x, y) not in self.panes:
                self.panes[x, y] = pane
                waiting += [(x + 1, y), (x - 1, y), (x, y + 1), (x, y - 1)]

    def left(self, x, y, turn):
        """What is beside the middle of a lead, to the left of who goes along it."""
        right, down = MOVES[turn]
        beside = (4 * x + 2 * right + down, 4 * y + 2 * down - right)
        return self.panes.get(beside, -1)

    def sides(self, name):
        x, y, turn = name
        right, down = MOVES[turn]
        return (self.left(x, y, turn), self.left(x + right, y + down, OPPOSITE[turn]))

    def near(self):
        """For each pane the pairs (pane beyond, lead between), by leads."""
        found = {pane: [] for pane in sorted(set(self.names))}
        for name in self.leads:
            one, other = self.sides(name)
            if one != other and -1 not in (one, other):
                found[one].append((other, name))
                found[other].append((one, name))
        return found

    def both_ways(self):
        """All sides along leads, each lead both ways."""
        for x, y, turn in self.leads:
            right, down = MOVES[turn]
            yield (x, y, turn)
            yield (x + right, y + down, OPPOSITE[turn])


def with_glass(plan, colours, seed=0):
    """The plan with one of these colours, or 0 for none, in each pane, always the same."""
    chance = random.Random(seed)
    names = Raster(plan).names
    picked = {pane: colours[int(chance.random() * len(colours))] for pane in sorted(set(names))}
    return (*plan[:3], tuple(picked[pane] for pane in names))


COLOURS = (1, 2, 3, 4, 5, 6, 7, 8, 9)

# With none, so that panes with glass and without lie beside one another.
SOME_COLOURS = (0, 0, 1, 2, 9)


def glassy_plans():
    """Plans of all kinds with glass in all panes, in some, and with one colour alone."""
    for seed, plan in enumerate(mixed_plans()):
        yield with_glass(plan, (COLOURS, SOME_COLOURS, (0, 4))[seed % 3], seed)
    for seed, plan in enumerate(great_plans()):
        yield with_glass(plan, (SOME_COLOURS, COLOURS)[seed % 2], seed)


def count_pieces(plan):
    """How many pieces of lead hang together, by joining the ends of each lead."""
    joined = {}
    for x, y, turn in rim_of(plan[0], plan[1]) + list(plan[2]):
        right, down = MOVES[turn]
        one = joined.get((x, y), {(x, y)})
        both = one | joined.get((x + right, y + down), {(x + right, y + down)})
        for point in both:
            joined[point] = both
    return len({min(one) for one in joined.values()})


def counts_of(plan):
    """How many panes and pieces a plan has."""
    return (len(set(Raster(plan).names)), count_pieces(plan))


class Model:
    """A window kept another way: a row of all that stood, and a place in it."""

    def __init__(self, plan):
        self.row = [(None, plan, [])]
        self.at = 0

    def plan(self):
        return self.row[self.at][1]

    def gone(self):
        """The pairs (colour, quarters) lost, one behind the other."""
        return self.row[self.at][2]

    def deeds(self):
        return [deed for deed, plan, gone in self.row[1:self.at + 1]]

    def lost(self, colour):
        return sum(many for one, many in self.gone() if one == colour)

    def do(self, deed):
        """What a deed tells, or the class that refuses it in a list, with its step."""
        kind, *numbers = deed
        try:
            plan, gone, told = getattr(self, kind)(*numbers)
        except Wrong as wrong:
            return list(wrong.args)
        if self.at == 200:
            return ["Full"]
        self.row[self.at + 1:] = [(deed, plan, self.gone() + gone)]
        self.at += 1
        return told

    def undo(self):
        if self.at == 0:
            return ["NothingLeft"]
        self.at -= 1
        return self.row[self.at + 1][0]

    def redo(self):
        if self.at == len(self.row) - 1:
            return ["NothingLeft"]
        self.at += 1
        return self.row[self.at][0]

    def names(self, x, y, turn, many):
        """The names of a stretch, step by step; ends with None where it leaves the board."""
        width, height = self.plan()[:2]
        if x not in range(width + 1) or y not in range(height + 1):
            raise Wrong("BadPoint")
        if turn not in range(8):
            raise Wrong("BadTurn")
        if many not in range(1, 10):
            raise Wrong("BadMany")
        right, down = MOVES[turn]
        found = []
        for at in range(many):
            here = (x + at * right, y + at * down)
            there = (here[0] + right, here[1] + down)
            if there[0] not in range(width + 1) or there[1] not in range(height + 1):
                raise Wrong("Off", at)
            found.append((*here, turn) if turn < 4 else (*there, OPPOSITE[turn]))
        return found

    def growth(self, plan):
        one, other = counts_of(self.plan()), counts_of(plan)
        return (other[0] - one[0], other[1] - one[1])

    def lay(self, x, y, turn, many):
        width, height, within, glass = self.plan()
        names = self.names(x, y, turn, many)
        cells = {cell_of(name) for name in within} - {None}
        for at, name in enumerate(names):
            if name in within or name in rim_of(width, height):
                raise Wrong("Taken", at)
            if cell_of(name) in cells:
                raise Wrong("Crossing", at)
        plan = (width, height, tuple(sorted((*within, *names))), glass)
        return plan, [], self.growth(plan)

    def pull(self, x, y, turn, many):
        width, height, within, glass = self.plan()
        names = self.names(x, y, turn, many)
        for at, name in enumerate(names):
            if name in rim_of(width, height):
                raise Wrong("Framed", at)
            if name not in within:
                raise Wrong("NoLead", at)
        left = plan_of(width, height, set(within) - set(names))
        found = Raster(left).names
        mixed = {pane for pane, colour in zip(found, glass) if colour != glass[pane]}
        kept = tuple(0 if pane in mixed else colour for pane, colour in zip(found, glass))
        gone = [(colour, glass.count(colour) - kept.count(colour)) for colour in COLOURS]
        plan = (*left[:3], kept)
        return plan, [pair for pair in gone if pair[1]], self.growth(plan)

    def pane(self, quarter):
        """The quarters of a quarter's pane."""
        names = Raster(self.plan()).names
        if quarter not in range(len(names)):
            raise Wrong("BadQuarter")
        return [other for other, name in enumerate(names) if name == names[quarter]]

    def glaze(self, quarter, colour):
        width, height, within, glass = self.plan()
        pane = self.pane(quarter)
        if colour not in COLOURS:
            raise Wrong("BadColour")
        if glass[quarter]:
            raise Wrong("Glazed")
        kept = tuple(colour if one in pane else old for one, old in enumerate(glass))
        return (width, height, within, kept), [], len(pane)

    def shatter(self, quarter):
        width, height, within, glass = self.plan()
        pane = self.pane(quarter)
        if not glass[quarter]:
            raise Wrong("NoGlass")
        kept = tuple(0 if one in pane else old for one, old in enumerate(glass))
        return (width, height, within, kept), [(glass[quarter], len(pane))], glass[quarter]


class Wrong(Exception):
    """What a Model refuses: a class's name, and the step where it has one."""


def some_deeds(width, height, many, seed):
    """So many deeds, some of which are refused, always the same."""
    chance = random.Random(seed)

    def pick(low, high):
        # Now and then something beyond the bounds.
        if chance.random() < 0.02:
            return (low - 1, high + 1)[int(chance.random() * 2)]
        return low + int(chance.random() * (high - low + 1))

    for at in range(many):
        word = ("lay", "lay", "lay", "pull", "pull", "glaze", "glaze", "shatter")[pick(0, 7) % 8]
        if word in ("lay", "pull"):
            length = 1 + int(chance.random() * chance.random() * 4)
            yield (word, pick(0, width), pick(0, height), pick(0, 7), pick(length, length))
        else:
            quarter = pick(0, 4 * width * height - 1)
            yield (word, quarter, pick(1, 9)) if word == "glaze" else (word, quarter)


def spoil(told):
    """Changes all lists and dicts in something told."""
    if isinstance(told, dict):
        for one in told.values():
            spoil(one)
        told.clear()
        told["spoilt"] = True
    elif isinstance(told, list):
        for one in told:
            spoil(one)
        told.reverse()
        told.append("spoilt")
    elif isinstance(told, tuple):
        for one in told:
            spoil(one)


class Refusals(unittest.TestCase):
    def refused(self, kind, asked, *places, **names):
        """That just this class is raised, not one under or above it."""
        try:
            asked(*places, **names)
        except Exception as error:
            self.assertIs(type(error), kind)
            return error
        self.fail("nothing was refused")

    def refused_at(self, at, kind, asked, *places, **names):
        """That just this class is raised, with this in its field `at`."""
        self.assertEqual(self.refused(kind, asked, *places, **names).at, at)

    def same(self, told, right):
        """That it is the same, also where tuples are tuples and lists are lists."""
        self.assertEqual(told, right)
        self.assertEqual(repr(told), repr(right))

    def told_anew(self, asked, *places):
        """That what was told can be changed, and is told again as it was."""
        told = asked(*places)
        kept = copy.deepcopy(told)
        spoil(told)
        self.assertNotEqual(told, kept)
        self.same(asked(*places), kept)
