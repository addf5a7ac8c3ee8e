"""The whole program: its interface, arguments by place and by name, nothing kept or shared."""

import copy
import importlib
import inspect
import unittest

from helper import COLOURS, CROSS, DIAMOND, NESTED, Refusals, spoil, with_glass
from leadlight.borders import turning, walk
from leadlight.code import code
from leadlight.deeds import done, page
from leadlight.desk import Desk
from leadlight.drawing import drawing
from leadlight.glass import laid, pulled
from leadlight.mirrors import mirrored
from leadlight.pages import read_page
from leadlight.window import Window, window_of

GLASSY = with_glass(NESTED, COLOURS, 1)

# For each module its functions, each with its arguments in their order and with
# the values that it is asked with here; behind a bar those that can be left out.
ASKED = {
    "points": {
        "back": {"turn": 3},
        "step": {"x": 1, "y": 2, "turn": 3, "|many": 4},
        "lead": {"x": 4, "y": 5, "turn": 6},
        "ends": {"name": (1, 2, 3)},
        "over": {"name": (1, 2, 3)},
        "is_frame": {"width": 2, "height": 3, "name": (0, 3, 0)},
        "all_leads": {"width": 2, "height": 3},
        "frame": {"width": 2, "height": 3},
    },
    "plans": {
        "bare": {"width": 2, "height": 3},
        "place_of": {"plan": GLASSY, "quarter": 17},
        "leads_of": {"plan": GLASSY},
        "free_leads": {"plan": GLASSY},
        "is_plan": {"plan": GLASSY},
    },
    "panes": {
        "pane_of": {"plan": GLASSY, "quarter": 50},
        "names": {"plan": GLASSY},
        "panes": {"plan": GLASSY},
        "quarters": {"plan": GLASSY, "pane": 24},
        "size": {"plan": GLASSY, "pane": 24},
    },
    "borders": {
        "left": {"plan": NESTED, "x": 1, "y": 2, "turn": 6},
        "sides": {"plan": NESTED, "name": (1, 2, 2)},
        "walk": {"plan": NESTED, "x": 1, "y": 2, "turn": 6},
        "turning": {"row": [(0, 0, 1), (1, 1, 6), (1, 0, 4)]},
        "borders": {"plan": NESTED, "pane": 24},
    },
    "pieces": {
        "degree": {"plan": CROSS, "x": 3, "y": 2},
        "points_of": {"plan": CROSS},
        "pieces": {"plan": CROSS},
        "free_pieces": {"plan": CROSS},
        "odd_points": {"plan": CROSS},
    },
    "strips": {"fewest": {"plan": CROSS}, "strips": {"plan": CROSS}},
    "hues": {
        "odd_inner": {"plan": CROSS},
        "neighbours": {"plan": DIAMOND},
        "hues": {"plan": DIAMOND},
    },
    "ways": {
        "far": {"plan": DIAMOND, "pane": 4},
        "way": {"plan": DIAMOND, "one": 0, "other": 13},
        "walls": {"plan": DIAMOND, "one": 0, "other": 13},
    },
    "trees": {
        "to_pull": {"plan": DIAMOND},
        "idle": {"plan": CROSS},
        "between": {"plan": DIAMOND, "one": 1, "other": 4},
    },
    "mirrors": {
        "mirrored": {"plan": GLASSY, "turn": 5},
        "least_form": {"plan": GLASSY},
        "alike": {"one": CROSS, "other": mirrored(CROSS, 3)},
    },
    "glass": {
        "stretch": {"plan": NESTED, "x": 4, "y": 3, "turn": 4, "|many": 3},
        "laid": {"plan": NESTED, "some": [(2, 2, 2), (0, 1, 0)]},
        "pulled": {"plan": GLASSY, "some": [(3, 1, 0), (2, 2, 0)]},
        "glazed": {"plan": NESTED, "quarter": 30, "|colour": 4},
        "shattered": {"plan": GLASSY, "quarter": 30},
        "used": {"plan": GLASSY, "colour": GLASSY[3][30]},
    },
    "code": {"code": {"plan": GLASSY}, "read_code": {"text": code(GLASSY)}},
    "drawing": {"drawing": {"plan": GLASSY}, "read_drawing": {"text": drawing(GLASSY)}},
    "window": {"window_of": {"text": code(GLASSY)}},
    "deeds": {
        "done": {"window": Window(2, 2), "deed": ("lay", 0, 0, 1, 2)},
        "deed_text": {"deed": ("lay", 0, 0, 1, 2)},
        "read_deed": {"line": "lay 0 0 1 2"},
        "page": {"window": Window(2, 2)},
    },
    "pages": {"read_page": {"text": "3 2\nlay 1 0 2 2\nglaze 0 4\n"}},
}

# Those of the arguments that can be left out, and what stands for them then.
LEFT_OUT = {"many": 1, "colour": 1, "number": 1}

METHODS = {
    Window: {
        "__init__": ["width", "height"], "__eq__": ["other"], "__len__": [], "__str__": [], "__repr__": [],
        "lay": ["x", "y", "turn", "|many"], "pull": ["x", "y", "turn", "|many"],
        "glaze": ["quarter", "|colour"], "shatter": ["quarter"], "undo": [], "redo": [], "deeds": [],
        "plan": [], "lost": ["colour"], "bought": ["colour"], "twin": [],
    },
    Desk: {"__init__": [], "__len__": [], "say": ["line"], "window": ["|number"]},
}


def functions():
    """Each function with its name and what it is asked with."""
    for module, rows in ASKED.items():
        for name, arguments in rows.items():
            yield getattr(importlib.import_module("leadlight." + module), name), arguments


def values(arguments):
    """The arguments by their names, windows as twins, so that none is used up."""
    rows = {}
    for name, value in arguments.items():
        rows[name.strip("|")] = value.twin() if isinstance(value, Window) else copy.deepcopy(value)
    return rows


def shown(told):
    """What was told, so that windows can be compared with all that is theirs."""
    if isinstance(told, Window):
        return [repr(told), told.deeds(), [told.lost(colour) for colour in COLOURS]]
    return told


class Interface(Refusals):
    def looked_at(self, function, names):
        found = [
            one for one in inspect.signature(function).parameters.values() if one.name != "self"
        ]
        self.assertEqual([one.name for one in found], [name.strip("|") for name in names])
        for one, name in zip(found, names):
            self.assertIs(one.kind, inspect.Parameter.POSITIONAL_OR_KEYWORD)
            default = LEFT_OUT[one.name] if name.startswith("|") else inspect.Parameter.empty
            self.assertEqual(one.default, default)

    def test_functions(self):
        for function, arguments in functions():
            with self.subTest(function=function.__name__):
                self.looked_at(function, list(arguments))

    def test_methods_stand_in_their_class(self):
        for kind, methods in METHODS.items():
            for name, arguments in methods.items():
                with self.subTest(kind=kind.__name__, name=name):
                    self.looked_at(vars(kind)[name], arguments)


class ByPlaceAndByName(Refusals):
    def test_functions(self):
        for function, arguments in functions():
            with self.subTest(function=function.__name__):
                rows = values(arguments)
                told = shown(function(*rows.values()))
                names = dict(list(values(arguments).items())[::-1])
                self.same(shown(function(**names)), told)

    def test_what_can_be_left_out(self):
        for function, arguments in functions():
            if any(name.startswith("|") for name in arguments):
                rows = values(arguments)
                few = [rows[name] for name in arguments if not name.startswith("|")]
                all_of_them = {**rows, **{name: one for name, one in LEFT_OUT.items() if name in rows}}
                self.same(function(*few), function(**all_of_them))

    def test_methods(self):
        one, other = Window(3, 2), Window(height=2, width=3)
        asked = (
            ("lay", {"x": 1, "y": 0, "turn": 2, "many": 2}), ("glaze", {"quarter": 0, "colour": 3}),
            ("glaze", {"quarter": 4}), ("shatter", {"quarter": 5}), ("lost", {"colour": 1}),
            ("bought", {"colour": 3}), ("pull", {"x": 1, "y": 2, "turn": 6}), ("undo", {}), ("redo", {}),
            ("deeds", {}), ("plan", {}), ("lost", {"colour": 3}), ("twin", {}),
        )
        for name, rows in asked:
            told = getattr(one, name)(*rows.values())
            self.same(shown(getattr(other, name)(**dict(list(rows.items())[::-1]))), shown(told))
        self.same(shown(one), shown(other))

    def test_desks(self):
        one, other = Desk(), Desk()
        for line in ("open 2 1", "1 lay 1 0 2 1", "1 glaze 0 2", "hues 1", "code 1", "copy 1", "x"):
            self.same(one.say(line), other.say(line=line))
        for number in (1, 2):
            self.same(shown(one.window(number)), shown(other.window(number=number)))
        self.same(shown(one.window()), shown(one.window(1)))


class NothingIsShared(Refusals):
    def test_what_was_told_can_be_changed(self):
        for function, arguments in functions():
            with self.subTest(function=function.__name__):
                told = function(*values(arguments).values())
                if not isinstance(told, Window):
                    kept = copy.deepcopy(told)
                    spoil(told)
                    self.same(function(*values(arguments).values()), kept)

    def test_what_was_handed_in_is_not_changed(self):
        for function, arguments in functions():
            rows = values(arguments)
            kept = copy.deepcopy(rows)
            function(*rows.values())
            if function != done:
                with self.subTest(function=function.__name__):
                    self.same(rows, kept)

    def test_lists_that_were_handed_in_can_be_changed_behind_the_call(self):
        row = walk(NESTED, 1, 1, 0)
        kept = turning(row)
        spoil(row)
        self.same(turning(walk(NESTED, 1, 1, 0)), kept)
        for asked in (laid, pulled):
            some = [(2, 3, 0), (0, 1, 0)] if asked == laid else [(2, 2, 0), (3, 1, 0)]
            told = asked(GLASSY, some)
            kept = copy.deepcopy(told)
            spoil(some)
            self.same(told, kept)

    def test_told_windows_can_be_changed(self):
        text = code(with_glass(DIAMOND, COLOURS))
        made = (
            (lambda: Window(2, 2), ("lay", 1, 1, 0, 1)),
            (lambda: window_of(text), ("shatter", 0)),
            (lambda: read_page("2 2\nlay 1 1 0 1\n"), ("pull", 1, 1, 0, 1)),
        )
        for make, deed in made:
            kept = shown(make())
            window = make()
            done(window, deed)
            spoil(window.deeds())
            self.assertNotEqual(shown(window), kept)
            self.same(shown(make()), kept)

    def test_windows_handed_in_are_not_kept(self):
        window = Window(2, 2)
        text = page(window)
        done(window, ("lay", 0, 0, 1, 2))
        self.same(text, "2 2\n")
        self.same(page(window), "2 2\nlay 0 0 1 2\n")

    def test_twins_and_windows_of_a_desk(self):
        desk = Desk()
        desk.say("open 2 2")
        desk.say("1 lay 0 0 1 2")
        one, other = desk.window(), desk.window()
        twin = one.twin()
        kept = shown(one)
        one.undo()
        one.glaze(0, 5)
        self.same([shown(other), shown(twin), shown(desk.window())], [kept] * 3)
        self.same(desk.say("redo 1"), "refused nothingleft")

    def test_lists_of_windows_are_told_anew(self):
        window = Window(2, 2)
        window.lay(0, 0, 1)
        window.glaze(3, 2)
        spoil(window.deeds())
        self.same(window.deeds(), [("lay", 0, 0, 1, 1), ("glaze", 3, 2)])
        self.same([window.undo(), window.undo()], [("glaze", 3, 2), ("lay", 0, 0, 1, 1)])


class TheSameAgain(Refusals):
    def test_everything_asked_twice(self):
        for function, arguments in functions():
            one = shown(function(*values(arguments).values()))
            self.same(shown(function(*values(arguments).values())), one)


if __name__ == "__main__":
    unittest.main()
