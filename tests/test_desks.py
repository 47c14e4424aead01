"""[111] and [112], and [1] to [3] of them: desks."""

import copy
import random
import unittest

from farpanes.desks import Desk
from farpanes.errors import BadDeed, BadFace, BadLayout, BadName, Nothing
from farpanes.faces import blank, fitted, need_face, shown
from farpanes.panes import areas, joined, need_layout
from farpanes.pens import Pen
from tests.common import NO_NUMBERS, NO_TEXTS, face_of, refused, rows_of
from tests.test_panes import A, B, C, D, NO_NAMES
from tests.test_pens import BAD_DEEDS, GOOD_DEEDS
from tests.test_pens_by_model import some_deed

HUGE = 10 ** 5000
NO_LISTS = [None, True, 0, "", "say", b"", (), ("say", "a"), (("say", "a"),), {}, {("line",): 1}, {1}]


def say(text):
    return [("say", text)]


def look(desk):
    """All that a desk shows, and, by a sign said in each pane, where its pen really stands and with which ink."""
    names = [place[0] for place in areas(desk.layout(), len(desk.face()[0]), len(desk.face()[0][0]))]
    seen = [desk.layout(), desk.chosen(), desk.face()] + [desk.pane(name) for name in names]
    probe = copy.deepcopy(desk)
    for name in names:
        probe.write(name, say("#"))
        seen.append(probe.pane(name))
    return seen


def look_back(desk):
    """What a desk shows, and what it shows behind each undo, till there is nothing more to take back."""
    probe = copy.deepcopy(desk)
    seen = [look(probe)]
    while True:
        try:
            probe.undo()
        except Nothing:
            return seen
        seen.append(look(probe))


def quarters():
    """A desk with four panes of unlike sizes, each with other signs and inks, one with its cursor behind all columns."""
    desk = Desk(10, 20, "a")
    desk.split("a", "beside", 7, "b")
    desk.split("a", "below", 3, "c")
    desk.split("b", "below", 6, "d")
    desk.write("a", [("ink", 1), ("say", "abcdefg")])
    desk.write("b", [("ink", 2), ("say", "hello"), ("line",)])
    desk.write("c", [("ink", 3), ("go", 4, 2), ("say", "xyz")])
    desk.write("d", [("ink", 4), ("say", "d" * 12)])
    return desk


class TestFirst(unittest.TestCase):
    def test_all_sizes(self):
        for height in range(1, 11):
            for width in range(1, 21):
                desk = Desk(height, width, "abc")
                self.assertEqual(desk.layout(), ("pane", "abc"))
                self.assertEqual(desk.chosen(), "abc")
                self.assertEqual(desk.pane("abc"), blank(height, width))
                self.assertEqual(desk.face(), blank(height, width))
                refused(self, Nothing, desk.undo)

    def test_names(self):
        for name in ("a", "z", "abcdefgh", "pane"):
            self.assertEqual(Desk(1, 1, name).chosen(), name)
        for thing in NO_NAMES:
            refused(self, BadName, Desk, 5, 5, thing)

    def test_sizes_that_can_not_be(self):
        for thing in NO_NUMBERS + [0, -1, 21, HUGE, -HUGE]:
            refused(self, BadFace, Desk, thing, 5, "a")
            refused(self, BadFace, Desk, 5, thing, "a")
        refused(self, BadFace, Desk, 11, 5, "a")

    def test_names_are_told_ahead_of_sizes(self):
        refused(self, BadName, Desk, 0, 0, "")
        refused(self, BadName, Desk, 11, True, None)

    def test_desks_have_nothing_in_common(self):
        one, other = Desk(2, 3, "a"), Desk(2, 3, "a")
        one.write("a", say("x"))
        one.split("a", "beside", 1, "b")
        self.assertEqual(look(other), look(Desk(2, 3, "a")))
        refused(self, Nothing, other.undo)


class TestSplit(unittest.TestCase):
    def test_beside(self):
        desk = Desk(2, 7, "a")
        desk.write("a", [("ink", 3), ("say", "abcdefghij")])
        self.assertIsNone(desk.split("a", "beside", 4, "b"))
        self.assertEqual(desk.layout(), ("beside", 4, A, B))
        self.assertEqual(desk.chosen(), "a")
        self.assertEqual(desk.pane("a"), face_of("abcd", "hij ", row=1, column=3, ink=3))
        self.assertEqual(desk.pane("b"), blank(2, 2))
        self.assertEqual(shown(desk.face()), ["abcd|  ", "hij |  "])
        self.assertEqual(desk.face()[0][0][4], ("|", 0))
        self.assertEqual(desk.face()[1:], (1, 3))

    def test_below(self):
        desk = Desk(5, 3, "a")
        desk.write("a", [("ink", 3), ("go", 1, 1), ("say", "x"), ("go", 4, 2), ("say", "z")])
        desk.split("a", "below", 2, "b")
        self.assertEqual(desk.layout(), ("below", 2, A, B))
        self.assertEqual(desk.pane("a"), face_of("   ", " x ", row=1, column=2, ink=3))
        self.assertEqual(desk.pane("b"), blank(2, 3))
        self.assertEqual(shown(desk.face()), ["   ", " x ", "---", "   ", "   "])

    def test_the_new_pane_has_a_pen_as_at_first(self):
        desk = Desk(3, 9, "a")
        desk.write("a", [("ink", 5), ("go", 1, 2)])
        desk.split("a", "beside", 4, "b")
        desk.write("b", say("xy"))
        self.assertEqual(desk.pane("b"), face_of("xy  ", "    ", "    ", column=2))

    def test_the_old_pane_keeps_its_ink(self):
        desk = Desk(3, 9, "a")
        desk.write("a", [("ink", 5), ("go", 1, 2)])
        desk.split("a", "beside", 4, "b")
        desk.write("a", say("x"))
        self.assertEqual(desk.pane("a"), face_of("    ", "  x ", "    ", row=1, column=3, ink=5))

    def test_deep_within(self):
        desk = Desk(10, 20, "a")
        desk.split("a", "beside", 9, "b")
        desk.split("b", "below", 3, "c")
        desk.split("a", "below", 4, "d")
        desk.split("c", "beside", 2, "e")
        self.assertEqual(desk.layout(), ("beside", 9, ("below", 4, A, D), ("below", 3, B, ("beside", 2, C, ("pane", "e")))))
        self.assertEqual(desk.chosen(), "a")

    def test_other_panes_stay_as_they_are(self):
        desk = quarters()
        before = {name: desk.pane(name) for name in "abcd"}
        desk.split("b", "beside", 5, "e")
        self.assertEqual({name: desk.pane(name) for name in "acd"}, {name: before[name] for name in "acd"})
        # The pen of a still stands behind its last column.
        desk.write("a", say("h"))
        self.assertEqual(shown(desk.pane("a")), ["abcdefg", "h      ", "       "])

    def test_names(self):
        desk = quarters()
        before = look_back(desk)
        for thing in ["e", "A", "", "ab", "pane"] + NO_TEXTS:
            refused(self, BadName, desk.split, thing, "beside", 2, "new")
        for thing in NO_NAMES + ["a", "b", "c", "d"]:
            refused(self, BadName, desk.split, "a", "beside", 2, thing)
            refused(self, BadName, desk.split, "b", "below", 2, thing)
        self.assertEqual(look_back(desk), before)

    def test_ways_and_numbers(self):
        desk = quarters()
        before = look_back(desk)
        for thing in ["", "Beside", "above", "pane", "beside ", "besides", "|"] + NO_TEXTS:
            refused(self, BadLayout, desk.split, "b", thing, 2, "e")
        for way in ("beside", "below"):
            for thing in NO_NUMBERS + [0, -1, 21, HUGE, -HUGE]:
                refused(self, BadLayout, desk.split, "b", way, thing, "e")
        self.assertEqual(look_back(desk), before)

    def test_the_edge_of_room(self):
        for many in range(1, 21):
            for width in range(1, 21):
                desk = Desk(1, width, "a")
                if many + 2 <= width:
                    desk.split("a", "beside", many, "b")
                    self.assertEqual(desk.pane("b"), blank(1, width - many - 1))
                else:
                    refused(self, BadLayout, desk.split, "a", "beside", many, "b")
                    self.assertEqual(look(desk), look(Desk(1, width, "a")))
            for height in range(1, 11):
                desk = Desk(height, 1, "a")
                if many + 2 <= height:
                    desk.split("a", "below", many, "b")
                    self.assertEqual(desk.pane("b"), blank(height - many - 1, 1))
                else:
                    refused(self, BadLayout, desk.split, "a", "below", many, "b")
                    refused(self, Nothing, desk.undo)

    def test_too_deep(self):
        # 9 splits beside and 3 below: the last pane lies in 12 others, and has room for two.
        desk = Desk(10, 20, "p")
        last = "p"
        for at, way in enumerate(["beside"] * 8 + ["below"] * 3 + ["beside"]):
            new = "abcdefghijklm"[at]
            desk.split(last, way, 1, new)
            last = new
        self.assertIsNone(need_layout(desk.layout()))
        before = look(desk)
        self.assertGreaterEqual(len(desk.pane(last)[0]), 3)
        refused(self, BadLayout, desk.split, last, "below", 1, "zz")
        self.assertEqual(look(desk), before)
        desk.split("p", "below", 1, "zz")
        self.assertIsNone(need_layout(desk.layout()))

    def test_names_are_told_ahead_of_ways_and_room(self):
        desk = Desk(3, 3, "a")
        refused(self, BadName, desk.split, "b", "above", 0, "c")
        refused(self, BadName, desk.split, "a", "above", 0, "a")
        refused(self, BadName, desk.split, "a", "beside", 20, "A")
        refused(self, BadName, desk.split, "b", None, None, None)


class TestClose(unittest.TestCase):
    def test_of_two(self):
        for name, left in (("a", "b"), ("b", "a")):
            for way, size in (("beside", (5, 2)), ("below", (2, 7))):
                desk = Desk(5, 7, "a")
                desk.split("a", way, 2, "b")
                desk.write(left, [("ink", 6), ("say", "hi")])
                self.assertIsNone(desk.close(name))
                self.assertEqual(desk.layout(), ("pane", left))
                self.assertEqual(desk.chosen(), left)
                self.assertEqual(shown(desk.face()), ["hi     "] + ["       "] * 4)
                self.assertEqual(len(desk.pane(left)[0]), 5)

    def test_a_pane_that_is_not_chosen(self):
        desk = quarters()
        desk.choose("d")
        desk.close("a")
        self.assertEqual(desk.layout(), ("beside", 7, C, ("below", 6, B, D)))
        self.assertEqual(desk.chosen(), "d")

    def test_a_chosen_pane_with_a_pane(self):
        desk = quarters()
        desk.choose("c")
        desk.close("c")
        self.assertEqual(desk.layout(), ("beside", 7, A, ("below", 6, B, D)))
        self.assertEqual(desk.chosen(), "a")
        desk.choose("b")
        desk.close("b")
        self.assertEqual((desk.layout(), desk.chosen()), (("beside", 7, A, D), "d"))

    def test_with_a_beside_or_a_below(self):
        for choice, chosen in (("a", "b"), ("b", "b"), ("d", "d")):
            desk = quarters()
            desk.close("c")
            desk.choose(choice)
            desk.close("a")
            self.assertEqual((desk.layout(), desk.chosen()), (("below", 6, B, D), chosen))
            self.assertEqual(len(desk.pane("b")[0][0]), 20)
        for choice, chosen in (("e", "c"), ("c", "c"), ("a", "a")):
            desk = Desk(10, 20, "c")
            desk.split("c", "below", 5, "e")
            desk.split("c", "beside", 8, "a")
            desk.choose(choice)
            desk.close("e")
            self.assertEqual((desk.layout(), desk.chosen()), (("beside", 8, C, A), chosen))

    def test_the_first_of_a_layout_that_is_deep(self):
        desk = Desk(10, 20, "z")
        desk.split("z", "beside", 3, "m")
        desk.split("m", "below", 4, "n")
        desk.split("m", "beside", 4, "k")
        desk.swap("m", "k")
        desk.choose("z")
        desk.close("z")
        self.assertEqual(desk.layout(), ("below", 4, ("beside", 4, ("pane", "k"), ("pane", "m")), ("pane", "n")))
        self.assertEqual(desk.chosen(), "k")

    def test_other_panes_stay_as_they_are(self):
        desk = quarters()
        before = {name: desk.pane(name) for name in "abcd"}
        desk.close("d")
        self.assertEqual({name: desk.pane(name) for name in "ac"}, {name: before[name] for name in "ac"})
        desk.write("a", say("h"))
        self.assertEqual(shown(desk.pane("a"))[1], "h      ")
        self.assertEqual(desk.pane("b"), fitted(before["b"], 10, 12))

    def test_the_name_is_free_again(self):
        desk = quarters()
        desk.close("c")
        refused(self, BadName, desk.pane, "c")
        refused(self, BadName, desk.write, "c", [])
        desk.split("d", "beside", 4, "c")
        self.assertEqual(desk.pane("c"), blank(3, 7))
        desk.write("c", say("x"))
        self.assertEqual(desk.pane("c")[0][0][0], ("x", 0))

    def test_refusals(self):
        desk = quarters()
        before = look_back(desk)
        for thing in ["e", "A", "", "ab"] + NO_TEXTS:
            refused(self, BadName, desk.close, thing)
        self.assertEqual(look_back(desk), before)
        only = Desk(3, 3, "a")
        only.write("a", say("x"))
        before = look_back(only)
        for thing in ["a", "b", None]:
            refused(self, BadName, only.close, thing)
        self.assertEqual(look_back(only), before)


class TestSwap(unittest.TestCase):
    def test_of_one_size(self):
        desk = Desk(2, 7, "a")
        desk.split("a", "beside", 3, "b")
        desk.write("a", [("ink", 1), ("say", "abc")])
        desk.write("b", [("ink", 2), ("say", "xyz")])
        self.assertIsNone(desk.swap("a", "b"))
        self.assertEqual(desk.layout(), ("beside", 3, B, A))
        self.assertEqual(desk.chosen(), "a")
        self.assertEqual(shown(desk.face()), ["xyz|abc", "   |   "])
        self.assertEqual(desk.face()[1:], (0, 6))
        # Both pens still stand behind their last columns.
        desk.write("a", say("d"))
        desk.write("b", say("w"))
        self.assertEqual(shown(desk.face()), ["xyz|abc", "w  |d  "])
        self.assertEqual(desk.face()[0][1][0], ("w", 2))

    def test_of_unlike_sizes(self):
        for one, other in (("a", "d"), ("d", "a")):
            desk = quarters()
            before = {name: desk.pane(name) for name in "abcd"}
            desk.swap(one, other)
            self.assertEqual(desk.layout(), ("beside", 7, ("below", 3, D, C), ("below", 6, B, A)))
            self.assertEqual(desk.pane("a"), fitted(before["a"], 3, 12))
            self.assertEqual(desk.pane("d"), fitted(before["d"], 3, 7))
            self.assertEqual(desk.pane("b"), before["b"])
            self.assertEqual(desk.pane("c"), before["c"])
            # It goes on from where the face showed the cursor, with its ink.
            desk.write("a", say("Z"))
            self.assertEqual(desk.pane("a"), (fitted(face_of("abcdefZ", "       ", "       ", ink=1), 3, 12)[0], 0, 7))

    def test_with_itself(self):
        desk = quarters()
        before = look(desk)
        back = look_back(desk)
        desk.swap("c", "c")
        self.assertEqual(look(desk), before)
        self.assertEqual(look_back(desk), [before] + back)
        desk.undo()
        self.assertEqual(look_back(desk), back)

    def test_far_apart(self):
        desk = Desk(10, 20, "a")
        for name, way, new in (("a", "beside", "b"), ("b", "below", "c"), ("c", "beside", "d")):
            desk.split(name, way, 2, new)
        desk.swap("d", "a")
        self.assertEqual(desk.layout(), ("beside", 2, D, ("below", 2, B, ("beside", 2, C, A))))

    def test_refusals(self):
        desk = quarters()
        before = look_back(desk)
        for thing in ["e", "A", "", "ab"] + NO_TEXTS:
            refused(self, BadName, desk.swap, thing, "a")
            refused(self, BadName, desk.swap, "a", thing)
            refused(self, BadName, desk.swap, thing, thing)
        self.assertEqual(look_back(desk), before)


class TestResize(unittest.TestCase):
    def test_one_pane(self):
        desk = Desk(2, 3, "a")
        desk.write("a", [("ink", 3), ("say", "abcde")])
        self.assertIsNone(desk.resize(3, 2))
        self.assertEqual(desk.face(), face_of("ab", "de", "  ", row=1, column=1, ink=3))
        desk.write("a", say("XY"))
        self.assertEqual(desk.face(), face_of("ab", "dX", "Y ", row=2, column=1, ink=3))

    def test_only_panes_whose_size_becomes_another_one(self):
        desk = quarters()
        before = {name: desk.pane(name) for name in "abcd"}
        desk.resize(10, 16)
        self.assertEqual(desk.layout(), ("beside", 7, ("below", 3, A, C), ("below", 6, B, D)))
        self.assertEqual({name: desk.pane(name) for name in "ac"}, {name: before[name] for name in "ac"})
        self.assertEqual(desk.pane("b"), fitted(before["b"], 6, 8))
        self.assertEqual(desk.pane("d"), fitted(before["d"], 3, 8))
        desk.write("a", say("h"))
        self.assertEqual(shown(desk.pane("a"))[1], "h      ")

    def test_a_cursor_behind_the_last_column_goes_on_where_the_face_shows_it(self):
        for height, width in ((1, 4), (2, 3), (1, 2)):
            desk = Desk(1, 3, "a")
            desk.write("a", say("abc"))
            desk.resize(height, width)
            desk.write("a", say("X"))
            text = shown(fitted(face_of("abc"), height, width))
            at = min(2, width - 1)
            self.assertEqual(shown(desk.face()), [text[0][:at] + "X" + text[0][at + 1:]] + text[1:])

    def test_the_same_size(self):
        desk = quarters()
        back = look_back(desk)
        desk.resize(10, 20)
        self.assertEqual(look_back(desk), [back[0]] + back)

    def test_sizes_that_can_not_be(self):
        desk = quarters()
        before = look_back(desk)
        for thing in NO_NUMBERS + [0, -1, 21, HUGE, -HUGE]:
            refused(self, BadFace, desk.resize, thing, 20)
            refused(self, BadFace, desk.resize, 10, thing)
        refused(self, BadFace, desk.resize, 11, 20)
        refused(self, BadFace, desk.resize, 0, 1)
        self.assertEqual(look_back(desk), before)

    def test_the_edge_of_room(self):
        for height in range(1, 11):
            for width in range(1, 21):
                desk = quarters()
                if height >= 8 and width >= 9:
                    desk.resize(height, width)
                    self.assertEqual(desk.pane("d")[0], fitted(face_of("d" * 12, ink=4), height - 7, width - 8)[0])
                else:
                    refused(self, BadLayout, desk.resize, height, width)
                    self.assertEqual(desk.face(), quarters().face())

    def test_no_room_changes_nothing(self):
        desk = quarters()
        before = look_back(desk)
        for size in ((7, 20), (10, 8), (1, 1)):
            refused(self, BadLayout, desk.resize, *size)
        self.assertEqual(look_back(desk), before)


class TestChooseAndWrite(unittest.TestCase):
    def test_choose(self):
        desk = quarters()
        for name, place in (("a", (0, 6)), ("b", (1, 13)), ("c", (8, 5)), ("d", (7, 19)), ("d", (7, 19))):
            layout, cells = desk.layout(), desk.face()[0]
            self.assertIsNone(desk.choose(name))
            self.assertEqual(desk.chosen(), name)
            self.assertEqual((desk.layout(), desk.face()[0]), (layout, cells))
            self.assertEqual(desk.face()[1:], place)

    def test_choosing_moves_no_pen(self):
        desk = quarters()
        desk.choose("d")
        desk.choose("a")
        desk.write("a", say("h"))
        self.assertEqual(shown(desk.pane("a"))[1], "h      ")

    def test_choose_refusals(self):
        desk = quarters()
        before = look_back(desk)
        for thing in ["e", "A", "", "ab"] + NO_TEXTS:
            refused(self, BadName, desk.choose, thing)
        self.assertEqual(look_back(desk), before)

    def test_write(self):
        desk = quarters()
        for name in "abcd":
            before = {other: desk.pane(other) for other in "abcd"}
            self.assertIsNone(desk.write(name, [("wipe", "all"), ("home",), ("say", "new")]))
            self.assertIn("new", shown(desk.pane(name))[desk.pane(name)[1]])
            for other in "abcd":
                if other != name:
                    self.assertEqual(desk.pane(other), before[other])

    def test_write_as_a_pen_does(self):
        desk, pen = Desk(4, 9, "a"), Pen(4, 9)
        for deed in GOOD_DEEDS:
            desk.write("a", [deed])
            pen.write([deed])
            self.assertEqual(desk.pane("a"), pen.face())
            self.assertEqual(desk.face(), pen.face())
        desk.write("a", list(GOOD_DEEDS))
        pen.write(list(GOOD_DEEDS))
        self.assertEqual(desk.face(), pen.face())

    def test_write_refusals(self):
        desk = quarters()
        before = look_back(desk)
        for deed in BAD_DEEDS:
            refused(self, BadDeed, desk.write, "a", [deed])
            refused(self, BadDeed, desk.write, "b", [("ink", 7), ("say", "x"), deed])
        for thing in NO_LISTS:
            refused(self, BadDeed, desk.write, "a", thing)
        for thing in ["e", "A", "", "ab"] + NO_TEXTS:
            refused(self, BadName, desk.write, thing, [])
            refused(self, BadName, desk.write, thing, [("do",)])
            refused(self, BadName, desk.write, thing, None)
        self.assertEqual(look_back(desk), before)

    def test_pane(self):
        desk = quarters()
        self.assertEqual(desk.pane("a"), face_of("abcdefg", "       ", "       ", column=6, ink=1))
        self.assertEqual(desk.pane("d"), face_of("d" * 12, " " * 12, " " * 12, column=11, ink=4))
        for thing in ["e", "A", "", "ab"] + NO_TEXTS:
            refused(self, BadName, desk.pane, thing)

    def test_face(self):
        desk = quarters()
        self.assertEqual(shown(desk.face()), [
            "abcdefg|hello       ",
            "       |            ",
            "       |            ",
            "-------|            ",
            "       |            ",
            "       |            ",
            "       |------------",
            "       |dddddddddddd",
            "  xyz  |            ",
            "       |            ",
        ])
        self.assertEqual(desk.face()[0][0][:9], rows_of("abcdefg", ink=1)[0] + (("|", 0), ("h", 2)))
        self.assertEqual(desk.face(), joined(desk.layout(), 10, 20, {name: desk.pane(name) for name in "abcd"}, "a"))


class TestUndo(unittest.TestCase):
    DEEDS = [
        ("split", "a", "beside", 3, "e"),
        ("split", "d", "below", 1, "e"),
        ("close", "a"),
        ("close", "d"),
        ("swap", "a", "b"),
        ("swap", "c", "c"),
        ("resize", 9, 15),
        ("resize", 10, 20),
        ("choose", "d"),
        ("choose", "a"),
        ("write", "a", [("say", "more"), ("ink", 7)]),
        ("write", "b", [("ink", 5)]),
        ("write", "d", [("say", "x")]),
        ("write", "c", []),
    ]

    def do(self, desk, deed):
        self.assertIsNone(getattr(desk, deed[0])(*deed[1:]))

    def test_of_each_kind(self):
        for deed in self.DEEDS:
            desk = quarters()
            before = look_back(desk)
            self.do(desk, deed)
            self.assertEqual(len(look_back(desk)), len(before) + 1)
            self.assertIsNone(desk.undo())
            self.assertEqual(look_back(desk), before, deed)

    def test_of_each_two(self):
        for first in self.DEEDS:
            for second in self.DEEDS:
                desk = quarters()
                begin = look(desk)
                self.do(desk, first)
                middle = look(desk)
                try:
                    getattr(desk, second[0])(*second[1:])
                except (BadName, BadLayout):
                    self.assertEqual(look(desk), middle)
                else:
                    desk.undo()
                    self.assertEqual(look(desk), middle, (first, second))
                desk.undo()
                self.assertEqual(look(desk), begin, (first, second))

    def test_of_all_one_by_one_till_nothing(self):
        desk = quarters()
        self.assertEqual(len(look_back(desk)), 8)
        self.assertEqual(look_back(desk)[-1], look(Desk(10, 20, "a")))
        for turn in range(7):
            desk.undo()
        for turn in range(3):
            refused(self, Nothing, desk.undo)
            self.assertEqual(look(desk), look(Desk(10, 20, "a")))

    def test_an_ink_comes_back(self):
        desk = Desk(1, 5, "a")
        desk.write("a", [("ink", 3)])
        desk.write("a", [("ink", 4)])
        desk.undo()
        desk.write("a", say("x"))
        self.assertEqual(desk.face()[0][0][0], ("x", 3))

    def test_a_cursor_behind_the_last_column_comes_back(self):
        desk = Desk(2, 3, "a")
        desk.write("a", say("abc"))
        for deed in (("resize", 2, 4), ("split", "a", "beside", 1, "b"), ("write", "a", [("back",)]), ("choose", "a")):
            self.do(desk, deed)
            desk.undo()
            self.assertEqual(desk.face(), face_of("abc", "   ", column=2))
        desk.write("a", say("d"))
        self.assertEqual(desk.face(), face_of("abc", "d  ", row=1, column=1))

    def test_a_closed_pane_comes_back_with_its_pen(self):
        desk = quarters()
        desk.close("a")
        desk.undo()
        desk.write("a", say("h"))
        self.assertEqual(desk.pane("a"), face_of("abcdefg", "h      ", "       ", row=1, column=1, ink=1))

    def test_deeds_done_anew_in_between(self):
        desk = Desk(5, 9, "a")
        seen = [look(desk)]
        for text in "abc":
            desk.write("a", say(text))
            seen.append(look(desk))
        desk.undo()
        desk.undo()
        self.assertEqual(look(desk), seen[1])
        desk.split("a", "below", 2, "b")
        desk.write("b", say("x"))
        split = look(desk)
        desk.choose("b")
        desk.undo()
        self.assertEqual(look(desk), split)
        desk.undo()
        desk.undo()
        self.assertEqual(look(desk), seen[1])
        desk.undo()
        self.assertEqual(look(desk), seen[0])
        refused(self, Nothing, desk.undo)

    def test_what_was_refused_is_not_taken_back(self):
        desk = Desk(3, 3, "a")
        desk.write("a", say("x"))
        refused(self, BadDeed, desk.write, "a", [("say", "y"), ("do",)])
        refused(self, BadName, desk.close, "a")
        refused(self, BadLayout, desk.split, "a", "beside", 2, "b")
        refused(self, BadFace, desk.resize, 0, 0)
        refused(self, BadName, desk.choose, "b")
        desk.undo()
        self.assertEqual(desk.face(), blank(3, 3))
        refused(self, Nothing, desk.undo)
        self.assertEqual(desk.face(), blank(3, 3))


class TestWhatIsHandedInAndTold(unittest.TestCase):
    def test_lists_of_deeds_are_as_they_were_and_not_kept(self):
        desk = Desk(2, 5, "a")
        deeds = [("say", "ab"), ("ink", 3)]
        kept = copy.deepcopy(deeds)
        desk.write("a", deeds)
        self.assertEqual(deeds, kept)
        before = look_back(desk)
        deeds.append(("say", "c"))
        deeds[0] = ("wipe", "all")
        self.assertEqual(look_back(desk), before)
        wrong = [("say", "ab"), ("do",)]
        refused(self, BadDeed, desk.write, "a", wrong)
        self.assertEqual(wrong, [("say", "ab"), ("do",)])

    def test_what_is_told_stays_as_it_was(self):
        desk = quarters()
        told = [desk.layout(), desk.chosen(), desk.face(), desk.pane("a")]
        kept = copy.deepcopy(told)
        desk.write("a", [("wipe", "all")])
        desk.swap("a", "d")
        desk.close("b")
        desk.undo()
        self.assertEqual(told, kept)


class Model:
    """A desk, written another way: lists that are changed in place, and undo by doing all but the last deed anew."""

    def __init__(self, height, width, name):
        self.first = (height, width, name)
        self.deeds = []
        self.begin()

    def begin(self):
        self.height, self.width, name = self.first
        self.tree = ["pane", name]
        self.choice = name
        self.pens = {name: Pen(self.height, self.width)}

    def find(self, tree, name, around=None):
        if tree[0] == "pane":
            return [(tree, around)] if tree[1] == name else []
        return self.find(tree[2], name, tree) + self.find(tree[3], name, tree)

    def sizes(self, tree, height, width):
        if tree[0] == "pane":
            return {tree[1]: (height, width)}
        way, many, one, other = tree
        if way == "beside":
            return {**self.sizes(one, height, many), **self.sizes(other, height, width - many - 1)}
        return {**self.sizes(one, many, width), **self.sizes(other, height - many - 1, width)}

    def fit(self):
        pens = {}
        for name, (height, width) in self.sizes(self.tree, self.height, self.width).items():
            pens[name] = self.pens.get(name) or Pen(height, width)
            if (pens[name].height, pens[name].width) != (height, width):
                face, ink = fitted(pens[name].face(), height, width), pens[name].ink
                pens[name] = Pen(height, width)
                pens[name].write([("ink", ink)])
                pens[name].take(face)
        self.pens = pens

    def do(self, word, *told):
        self.deeds.append((word, *told))
        getattr(self, "do_" + word)(*told)
        self.fit()

    def do_split(self, name, way, many, new):
        tree = self.find(self.tree, name)[0][0]
        tree[:] = [way, many, ["pane", name], ["pane", new]]

    def do_close(self, name):
        tree, around = self.find(self.tree, name)[0]
        left = around[3] if around[2] is tree else around[2]
        around[:] = left
        first = around
        while first[0] != "pane":
            first = first[2]
        self.choice = first[1] if self.choice == name else self.choice

    def do_swap(self, one, other):
        trees = self.find(self.tree, one)[0][0], self.find(self.tree, other)[0][0]
        trees[0][1], trees[1][1] = other, one

    def do_resize(self, height, width):
        self.height, self.width = height, width

    def do_choose(self, name):
        self.choice = name

    def do_write(self, name, deeds):
        self.pens[name].write(deeds)

    def undo(self):
        deeds, self.deeds = self.deeds[:-1], []
        self.begin()
        for deed in deeds:
            self.do(*deed)

    def layout(self, tree=None):
        tree = tree or self.tree
        return tuple(self.layout(part) if isinstance(part, list) else part for part in tree)

    def rows(self, tree):
        if tree[0] == "pane":
            return [list(cells) for cells in self.pens[tree[1]].face()[0]]
        one, other = self.rows(tree[2]), self.rows(tree[3])
        if tree[0] == "below":
            return one + [[("-", 0)] * len(one[0])] + other
        return [left + [("|", 0)] + right for left, right in zip(one, other)]


class TestByModel(unittest.TestCase):
    def test_many_walks(self):
        for seed in range(40):
            self.walk(random.Random(seed))

    def some_deed(self, chance, names):
        name = chance.choice(names)
        word = chance.choice(["write"] * 5 + ["split"] * 4 + ["swap", "swap", "close", "choose", "resize"])
        if word == "write":
            return word, name, [some_deed(chance, 4, 6) for at in range(chance.randint(0, 4))]
        if word == "split":
            return word, name, chance.choice(["beside", "below"]), chance.randint(1, 6), chance.choice("abcdefghij")
        if word == "swap":
            return word, name, chance.choice(names)
        if word == "resize":
            return word, chance.randint(4, 10), chance.randint(8, 20)
        return word, name

    def walk(self, chance):
        height, width = chance.randint(6, 10), chance.randint(10, 20)
        desk, model = Desk(height, width, "a"), Model(height, width, "a")
        for step in range(60):
            if chance.random() < 0.2 and model.deeds:
                desk.undo()
                model.undo()
            else:
                deed = self.some_deed(chance, sorted(model.pens))
                try:
                    getattr(desk, deed[0])(*deed[1:])
                except (BadName, BadLayout):
                    continue
                model.do(*deed)
            self.check(desk, model)
        while model.deeds:
            desk.undo()
            model.undo()
            self.check(desk, model)
        refused(self, Nothing, desk.undo)
        self.assertEqual(look(desk), look(Desk(height, width, "a")))

    def check(self, desk, model):
        self.assertEqual(desk.layout(), model.layout())
        self.assertEqual(desk.chosen(), model.choice)
        for name, pen in model.pens.items():
            self.assertEqual(desk.pane(name), pen.face())
        face = desk.face()
        need_face(face)
        self.assertEqual([list(cells) for cells in face[0]], model.rows(model.tree))
        corners = {place[0]: place[1:3] for place in areas(desk.layout(), model.height, model.width)}
        row, column = model.pens[model.choice].face()[1:]
        self.assertEqual(face[1:], (corners[model.choice][0] + row, corners[model.choice][1] + column))


if __name__ == "__main__":
    unittest.main()
