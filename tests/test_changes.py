"""[41], the kind of [42], and [1] and [3] of them: changes."""

import copy
import unittest

from farpanes.changes import change_of, changed, cost, need_change
from farpanes.errors import BadChange, BadFace
from farpanes.faces import blank, need_face, shown
from tests.common import NO_NUMBERS, NO_SIGNS, NO_TEXTS, NO_TUPLES, SIGNS, refused, rows_of

HUGE = 10 ** 5000

GOOD_PARTS = (
    [("roll", by) for by in range(-10, 11) if by != 0]
    + [("put", row, column, 0, "a") for row in (0, 9, 10, 999, 1000, HUGE) for column in (0, 19, 20, 1000, HUGE)]
    + [("put", 0, 0, ink, "a") for ink in range(8)]
    + [("put", 0, 0, 0, text) for text in (" ", "~", "^", SIGNS, "x" * 20, "x" * 21, "x" * 2000)]
    + [("cursor", row, column) for row in (0, 9, 10, HUGE) for column in (0, 19, 20, HUGE)]
)

BAD_PARTS = (
    NO_TUPLES
    + [(), ("",), (None,), (0,), ("roll",), ("put",), ("cursor",), ("do",), ("do", 1), ("do", 0, 0)]
    + [["roll", 1], ["cursor", 0, 0], ["put", 0, 0, 0, "a"], (("roll", 1),), [("roll", 1)]]
    + [(word, 1) for word in ("Roll", "rolls", "roll ", "go", "cursor", "put", "say", "more")]
    + [(word, 0, 0) for word in ("Cursor", "cursors", "go", "roll", "put")]
    + [(word, 0, 0, 0, "a") for word in ("Put", "puts", "say", "roll", "cursor", "")]
    + [(thing, 1) for thing in NO_TEXTS]
    + [(thing, 0, 0) for thing in NO_TEXTS]
    + [(thing, 0, 0, 0, "a") for thing in NO_TEXTS]
    + [("roll", thing) for thing in NO_NUMBERS + [0, 11, -11, 99, -99, HUGE, -HUGE]]
    + [("roll", 1, 1), ("roll", 1, 0), ("roll", (1,))]
    + [("cursor", thing, 0) for thing in NO_NUMBERS + [-1, -HUGE]]
    + [("cursor", 0, thing) for thing in NO_NUMBERS + [-1, -HUGE]]
    + [("cursor", 0), ("cursor", 0, 0, 0), ("cursor", (0, 0))]
    + [("put", thing, 0, 0, "a") for thing in NO_NUMBERS + [-1, -HUGE]]
    + [("put", 0, thing, 0, "a") for thing in NO_NUMBERS + [-1, -HUGE]]
    + [("put", 0, 0, thing, "a") for thing in NO_NUMBERS + [-1, 8, HUGE, -HUGE]]
    + [("put", 0, 0, 0, thing) for thing in NO_TEXTS + ["", "a%b", "a\nb", "ab\n", "\xe9"]]
    + [("put", 0, 0, 0, thing) for thing in NO_SIGNS if thing not in ("ab", "  ")]
    + [("put", 0, 0, 0), ("put", 0, 0, "a"), ("put", 0, 0, 0, "a", "b"), ("put", 0, 0, 0, ("a",))]
)

NO_LISTS = [None, True, False, 0, 1, "", "roll", b"", (), ("roll", 1), (("roll", 1),), {}, {("roll", 1): 1}]
NO_LISTS += [set(), {("roll", 1)}, object(), list]

FACE = (rows_of("abc", "def", "ghi", ink=2), 1, 2)


def equal_to_all():
    """A thing that is equal to any other one, and so to each word of a part."""
    class Equal:
        def __eq__(self, other):
            return True
    return Equal()


class TestNeedChange(unittest.TestCase):
    def test_what_is_a_change(self):
        self.assertIsNone(need_change([]))
        for part in GOOD_PARTS:
            self.assertIsNone(need_change([part]))
        self.assertIsNone(need_change(list(GOOD_PARTS)))
        self.assertIsNone(need_change(GOOD_PARTS[::-1]))

    def test_each_sign_may_be_put(self):
        for sign in SIGNS:
            self.assertIsNone(need_change([("put", 0, 0, 0, sign)]))

    def test_rolls_may_be_several_and_cells_put_twice(self):
        twice = ("put", 0, 0, 1, "ab")
        self.assertIsNone(need_change([("cursor", 0, 0), twice, twice, ("roll", 1), ("roll", -1), ("cursor", 0, 0)]))

    def test_all_else_is_refused(self):
        for part in BAD_PARTS:
            refused(self, BadChange, need_change, [part])
            refused(self, BadChange, need_change, [("roll", 1), part])
            refused(self, BadChange, need_change, [part, ("roll", 1)])

    def test_words_are_texts(self):
        refused(self, BadChange, need_change, [(equal_to_all(), 1)])
        refused(self, BadChange, need_change, [(equal_to_all(), 0, 0)])

    def test_what_is_no_list(self):
        for thing in NO_LISTS:
            refused(self, BadChange, need_change, thing)


class TestChanged(unittest.TestCase):
    def test_no_parts_change_nothing(self):
        self.assertEqual(changed(FACE, []), FACE)

    def test_roll(self):
        for by, texts in [
            (1, ["def", "ghi", "   "]),
            (2, ["ghi", "   ", "   "]),
            (3, ["   ", "   ", "   "]),
            (4, ["   ", "   ", "   "]),
            (10, ["   ", "   ", "   "]),
            (-1, ["   ", "abc", "def"]),
            (-2, ["   ", "   ", "abc"]),
            (-3, ["   ", "   ", "   "]),
            (-10, ["   ", "   ", "   "]),
        ]:
            self.assertEqual(changed(FACE, [("roll", by)]), (rows_of(*texts, ink=2), 1, 2))

    def test_put(self):
        face = changed(FACE, [("put", 1, 1, 5, "XY")])
        self.assertEqual(face, ((FACE[0][0], (("d", 2), ("X", 5), ("Y", 5)), FACE[0][2]), 1, 2))
        face = changed(FACE, [("put", 2, 0, 0, " ")])
        self.assertEqual(face, ((FACE[0][0], FACE[0][1], ((" ", 0), ("h", 2), ("i", 2))), 1, 2))
        face = changed(FACE, [("put", 0, 0, 7, "xyz")])
        self.assertEqual(face, ((rows_of("xyz", ink=7)[0], FACE[0][1], FACE[0][2]), 1, 2))

    def test_blanks_are_put_with_the_ink(self):
        self.assertEqual(changed(blank(1, 2), [("put", 0, 0, 4, "  ")]), ((((" ", 4), (" ", 4)),), 0, 0))

    def test_cursor(self):
        for row in range(3):
            for column in range(3):
                self.assertEqual(changed(FACE, [("cursor", row, column)]), (FACE[0], row, column))

    def test_the_cursor_stays_but_by_a_cursor(self):
        self.assertEqual(changed(FACE, [("roll", 1), ("put", 0, 0, 0, "abc"), ("roll", -2)])[1:], (1, 2))

    def test_parts_are_done_in_turn(self):
        one, other = ("put", 0, 0, 1, "XY"), ("roll", 1)
        self.assertEqual(shown(changed(FACE, [one, other])), ["def", "ghi", "   "])
        self.assertEqual(shown(changed(FACE, [other, one])), ["XYf", "ghi", "   "])
        self.assertEqual(shown(changed(FACE, [one, ("put", 0, 1, 1, "Z")])), ["XZc", "def", "ghi"])
        self.assertEqual(shown(changed(FACE, [("put", 0, 1, 1, "Z"), one])), ["XYc", "def", "ghi"])
        self.assertEqual(changed(FACE, [("cursor", 0, 1), ("cursor", 2, 0)])[1:], (2, 0))
        self.assertEqual(shown(changed(FACE, [("roll", 1), ("roll", -1)])), ["   ", "def", "ghi"])

    def test_sizes_at_their_ends(self):
        for height, width in [(1, 1), (1, 20), (10, 1), (10, 20)]:
            text = ("x" * 20)[:width]
            change = [("roll", 10), ("put", height - 1, 0, 7, text), ("cursor", height - 1, width - 1)]
            face = changed(blank(height, width), change)
            need_face(face)
            self.assertEqual(shown(face), [" " * width] * (height - 1) + [text])
            self.assertEqual(face[1:], (height - 1, width - 1))

    def test_places_that_the_face_has_not(self):
        for part in [
            ("put", 3, 0, 0, "a"),
            ("put", 9, 0, 0, "a"),
            ("put", HUGE, 0, 0, "a"),
            ("put", 0, 3, 0, "a"),
            ("put", 0, HUGE, 0, "a"),
            ("put", 0, 2, 0, "ab"),
            ("put", 2, 1, 0, "abc"),
            ("put", 0, 0, 0, "abcd"),
            ("put", 0, 0, 0, "x" * 2000),
            ("cursor", 3, 0),
            ("cursor", 0, 3),
            ("cursor", 3, 3),
            ("cursor", HUGE, 0),
            ("cursor", 0, HUGE),
        ]:
            refused(self, BadChange, changed, FACE, [part])
            refused(self, BadChange, changed, FACE, [("roll", 1), part])
            refused(self, BadChange, changed, FACE, [part, ("roll", 1)])

    def test_what_is_no_change(self):
        for part in BAD_PARTS:
            refused(self, BadChange, changed, FACE, [part])
            refused(self, BadChange, changed, FACE, [("roll", 1), part])
        for thing in NO_LISTS:
            refused(self, BadChange, changed, FACE, thing)

    def test_what_is_no_face(self):
        for thing in NO_TUPLES + [(), FACE[0], list(FACE), (rows_of("ab"), 0, 2), (rows_of("ab", "a"), 0, 0)]:
            refused(self, BadFace, changed, thing, [])
            refused(self, BadFace, changed, thing, [("roll", 1)])

    def test_the_face_is_looked_at_ahead_of_the_change(self):
        refused(self, BadFace, changed, None, None)
        refused(self, BadFace, changed, (FACE[0], 3, 0), [("roll", 0)])

    def test_what_is_handed_in_stays_as_it_is(self):
        face, change = copy.deepcopy(FACE), [("roll", 1), ("put", 0, 0, 3, "xy"), ("cursor", 0, 0)]
        told = copy.deepcopy(change)
        first = changed(face, change)
        refused(self, BadChange, changed, face, change + [("cursor", 3, 0)])
        self.assertEqual(face, FACE)
        self.assertEqual(change, told)
        change.append(("roll", 5))
        self.assertEqual(changed(face, told), first)

    def test_kinds(self):
        face = changed(FACE, [("roll", -1), ("put", 0, 0, 3, "xy"), ("cursor", 0, 0)])
        for thing in [face, face[0]] + list(face[0]) + [cell for cells in face[0] for cell in cells]:
            self.assertIs(type(thing), tuple)
        self.assertIsNone(need_face(face))


class TestCost(unittest.TestCase):
    def test_each_part(self):
        self.assertEqual(cost([]), 0)
        for by in (-10, -1, 1, 10):
            self.assertEqual(cost([("roll", by)]), 4)
        for many in (1, 2, 20, 21, 2000):
            self.assertEqual(cost([("put", 9, 9, 7, "x" * many)]), 4 + many)
        self.assertEqual(cost([("cursor", 0, 0)]), 3)
        self.assertEqual(cost([("cursor", HUGE, HUGE)]), 3)

    def test_all_together(self):
        change = [("roll", 10), ("put", 0, 0, 0, "ab"), ("put", 0, 0, 0, "ab"), ("cursor", 5, 5), ("roll", 1)]
        self.assertEqual(cost(change), 4 + 6 + 6 + 3 + 4)

    def test_it_is_as_it_was(self):
        change = [("roll", 10), ("put", 0, 0, 0, "ab")]
        cost(change)
        need_change(change)
        self.assertEqual(change, [("roll", 10), ("put", 0, 0, 0, "ab")])

    def test_what_is_no_change(self):
        for part in BAD_PARTS:
            refused(self, BadChange, cost, [part])
            refused(self, BadChange, cost, [("roll", 1), part])
        for thing in NO_LISTS:
            refused(self, BadChange, cost, thing)


class TestChangeOf(unittest.TestCase):
    def test_nothing_to_change(self):
        for face in [FACE, blank(1, 1), blank(10, 20)]:
            self.assertEqual(change_of(face, face), [])

    def test_only_the_cursor(self):
        for row in range(3):
            for column in range(3):
                there = (FACE[0], row, column)
                self.assertEqual(change_of(FACE, there), [] if there == FACE else [("cursor", row, column)])

    def test_one_sign(self):
        other = changed(FACE, [("put", 1, 1, 2, "X")])
        self.assertEqual(change_of(FACE, other), [("put", 1, 1, 2, "X")])

    def test_one_ink(self):
        other = changed(FACE, [("put", 1, 1, 3, "e")])
        self.assertEqual(change_of(FACE, other), [("put", 1, 1, 3, "e")])

    def test_the_cursor_comes_last(self):
        other = changed(FACE, [("put", 2, 2, 2, "X"), ("cursor", 0, 0)])
        self.assertEqual(change_of(FACE, other), [("put", 2, 2, 2, "X"), ("cursor", 0, 0)])

    def test_rolls_are_found(self):
        for height in (2, 3, 10):
            rows = rows_of(*["abcdefghijklmnopqrstuvwxyz"[at:at + 8] for at in range(height)], ink=1)
            for by in range(1 - height, height):
                if by != 0:
                    other = changed((rows, 0, 0), [("roll", by)])
                    self.assertEqual(change_of((rows, 0, 0), other), [("roll", by)])
            self.assertEqual(cost(change_of((rows, 0, 0), blank(height, 8))), 4)

    def test_rolls_by_ten_are_found(self):
        rows = rows_of(*["abcdefghij"] * 10, ink=1)
        change = change_of((rows, 0, 0), blank(10, 10))
        self.assertIn(change, [[("roll", 10)], [("roll", -10)]])

    def test_gaps(self):
        # One sign more for each cell between, or 4 for another put: none costs less where there are four between.
        for between, price in [(0, 6), (1, 7), (2, 8), (3, 9), (4, 10), (5, 10), (6, 10), (18, 10)]:
            one = (rows_of("a" * 20), 0, 0)
            other = (rows_of("X" + "a" * between + "X" + "a" * (18 - between)), 0, 0)
            change = change_of(one, other)
            self.assertEqual(cost(change), price)
            self.assertEqual(changed(one, change), other)

    def test_a_put_has_one_ink(self):
        one = (rows_of("abcde"), 0, 0)
        other = (((("X", 1), ("X", 2), ("X", 2), ("d", 0), ("X", 2)),), 0, 0)
        puts = [("put", 0, 0, 1, "X"), ("put", 0, 1, 2, "XX"), ("put", 0, 4, 2, "X")]
        self.assertEqual(sorted(change_of(one, other)), puts)

    def test_blanks_with_inks_are_not_blank(self):
        other = ((((" ", 3), (" ", 0)),), 0, 0)
        self.assertEqual(change_of(blank(1, 2), other), [("put", 0, 0, 3, " ")])
        self.assertEqual(cost(change_of(other, blank(1, 2))), 4)

    def test_faces_of_unlike_sizes(self):
        sizes = [(1, 1), (1, 2), (2, 1), (2, 2), (3, 4), (4, 3), (10, 20), (10, 19), (9, 20)]
        for one in sizes:
            for other in sizes:
                if one != other:
                    refused(self, BadFace, change_of, blank(*one), blank(*other))

    def test_what_is_no_face(self):
        for thing in NO_TUPLES + [(), FACE[0], list(FACE), (FACE[0], 3, 0), (rows_of("abc", "def", "gh%"), 0, 0)]:
            refused(self, BadFace, change_of, thing, FACE)
            refused(self, BadFace, change_of, FACE, thing)
            refused(self, BadFace, change_of, thing, thing)

    def test_what_is_handed_in_stays_as_it_is_and_lists_are_new(self):
        one, other = copy.deepcopy(FACE), (rows_of("abc", "xyz", "ghi", ink=5), 0, 0)
        kept = copy.deepcopy(other)
        first = change_of(one, other)
        self.assertIs(type(first), list)
        told = copy.deepcopy(first)
        first.clear()
        self.assertEqual(change_of(one, other), told)
        self.assertEqual((one, other), (FACE, kept))
        empty = change_of(one, one)
        empty.append("more")
        self.assertEqual(change_of(one, one), [])


if __name__ == "__main__":
    unittest.main()
