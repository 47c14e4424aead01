"""[21] to [24], and [1] and [3] of them: deeds and pens."""

import copy
import unittest

from farpanes.errors import BadDeed, BadFace
from farpanes.faces import blank, need_face, shown
from farpanes.pens import Pen, need_deed
from tests.common import NO_NUMBERS, NO_SIGNS, NO_TEXTS, NO_TUPLES, SIGNS, refused, rows_of

COUNTED = ("open", "cut", "more", "less")

GOOD_DEEDS = (
    [("line",), ("home",), ("back",)]
    + [("say", " "), ("say", "~"), ("say", "x" * 200), ("say", SIGNS)]
    + [("go", row, column) for row in (0, 1, 99) for column in (0, 1, 99)]
    + [("ink", ink) for ink in range(8)]
    + [("wipe", "row"), ("wipe", "rest"), ("wipe", "all")]
    + [("roll", by) for by in (-99, -1, 0, 1, 99)]
    + [(word, many) for word in COUNTED for many in (0, 1, 99)]
)

BAD_DEEDS = (
    NO_TUPLES
    + [(), ("",), (None,), (0,), ("line", "line"), "line", ["line"], ["say", "a"], (("line",),)]
    + [("Line",), ("lines",), (" line",), ("do",), ("do", 1), ("say",), ("wipe",), ("go",), ("ink",), ("roll",)]
    + [(word, which) for word in ("", "do", "Wipe", "line") for which in ("row", "rest", "all")]
    + [(word, "a") for word in ("", "do", "Say", "home")]
    + [(word,) for word in COUNTED]
    + [(thing, 1) for thing in NO_TEXTS]
    + [(word, thing) for word in ("line", "home", "back") for thing in (None, "", 0, ())]
    + [("say", thing) for thing in NO_TEXTS + ["", "x" * 201, "a%b", "a\nb", "\xe9"]]
    + [("say", thing) for thing in NO_SIGNS if thing not in ("ab", "  ")]
    + [("say", "a", "b")]
    + [("wipe", thing) for thing in NO_TEXTS + ["", "r", "Row", "rows", "row ", "line"]]
    + [("wipe", "row", "row"), ("wipe", "all", 1)]
    + [("go", 1), ("go", 1, 2, 3), ("go", (1, 2)), ("go", -1, 0), ("go", 0, -1), ("go", 100, 0), ("go", 0, 100)]
    + [("go", thing, 0) for thing in NO_NUMBERS]
    + [("go", 0, thing) for thing in NO_NUMBERS]
    + [("ink", thing) for thing in NO_NUMBERS + [-1, 8, 10 ** 5000]]
    + [("ink", 1, 1)]
    + [("roll", thing) for thing in NO_NUMBERS + [-100, 100, 10 ** 5000, -10 ** 5000]]
    + [("roll", 1, 1)]
    + [(word, thing) for word in COUNTED for thing in NO_NUMBERS + [-1, 100, 10 ** 5000]]
    + [(word, 1, 1) for word in COUNTED]
)


def pen_with(*texts, ink=3):
    """A pen whose rows show the texts, its cursor at 0 and 0, its ink 0."""
    rows = rows_of(*texts, ink=ink)
    pen = Pen(len(rows), len(rows[0]))
    pen.take((rows, 0, 0))
    return pen


def state(pen):
    """What a pen shows: its texts, and the cursor's row and column."""
    face = pen.face()
    need_face(face)
    return shown(face), face[1], face[2]


def is_behind(pen):
    """Tell whether the cursor is behind the last column: a sign said does other things than in the last one."""
    probe = copy.deepcopy(pen)
    probe.write([("say", "?")])
    within = Pen(len(pen.face()[0]), len(pen.face()[0][0]))
    within.take(pen.face())
    within.write([("say", "?")])
    return state(probe) != state(within)


class TestNeedDeed(unittest.TestCase):
    def test_good_deeds_pass(self):
        for deed in GOOD_DEEDS:
            self.assertIsNone(need_deed(deed), deed)

    def test_each_sign_may_be_said(self):
        for sign in SIGNS:
            self.assertIsNone(need_deed(("say", sign)), sign)

    def test_each_number_in_range_passes(self):
        for number in range(100):
            for word in COUNTED:
                self.assertIsNone(need_deed((word, number)))
            self.assertIsNone(need_deed(("roll", number)))
            self.assertIsNone(need_deed(("roll", -number)))
            self.assertIsNone(need_deed(("go", number, 99 - number)))

    def test_all_else_is_refused(self):
        for deed in BAD_DEEDS:
            refused(self, BadDeed, need_deed, deed)


class TestNewPen(unittest.TestCase):
    def test_it_is_blank_at_first(self):
        for height, width in [(1, 1), (10, 20), (1, 20), (10, 1), (3, 7)]:
            self.assertEqual(Pen(height, width).face(), blank(height, width))

    def test_its_ink_is_0_at_first(self):
        pen = Pen(1, 1)
        pen.write([("say", "x")])
        self.assertEqual(pen.face(), (rows_of("x"), 0, 0))

    def test_sizes_that_can_not_be(self):
        for thing in NO_NUMBERS + [0, -1, 21, 10 ** 5000]:
            refused(self, BadFace, Pen, thing, 5)
            refused(self, BadFace, Pen, 5, thing)
        refused(self, BadFace, Pen, 11, 5)

    def test_methods_stand_in_the_class(self):
        for name in ("write", "face", "take"):
            self.assertIn(name, vars(Pen))

    def test_methods_tell_none(self):
        pen = Pen(2, 3)
        self.assertIsNone(pen.write([]))
        self.assertIsNone(pen.write([("say", "a")]))
        self.assertIsNone(pen.take(blank(2, 3)))


class TestSay(unittest.TestCase):
    def test_signs_stand_side_by_side_with_the_ink(self):
        pen = Pen(2, 4)
        pen.write([("say", "a"), ("ink", 6), ("say", "b "), ("ink", 0)])
        rows = ((("a", 0), ("b", 6), (" ", 6), (" ", 0)), ((" ", 0),) * 4)
        self.assertEqual(pen.face(), (rows, 0, 3))

    def test_up_to_the_last_column_the_cursor_stands_behind_it(self):
        pen = Pen(2, 3)
        pen.write([("say", "abc")])
        self.assertEqual(state(pen), (["abc", "   "], 0, 2))
        self.assertTrue(is_behind(pen))

    def test_the_last_column_itself_is_not_behind_it(self):
        pen = Pen(2, 3)
        pen.write([("say", "ab")])
        self.assertEqual(state(pen), (["ab ", "   "], 0, 2))
        self.assertFalse(is_behind(pen))
        pen.write([("say", "c")])
        self.assertEqual(state(pen), (["abc", "   "], 0, 2))

    def test_behind_the_last_column_it_goes_on_in_the_next_row(self):
        pen = Pen(2, 3)
        pen.write([("say", "abcd")])
        self.assertEqual(state(pen), (["abc", "d  "], 1, 1))

    def test_in_the_last_row_all_rows_roll_up(self):
        pen = Pen(2, 3)
        pen.write([("ink", 2), ("say", "abcdefg")])
        self.assertEqual(pen.face(), (rows_of("def", "g  ", ink=2), 1, 1))

    def test_it_rolls_no_sooner_than_a_sign_is_said(self):
        pen = Pen(2, 3)
        pen.write([("say", "abcdef")])
        self.assertEqual(state(pen), (["abc", "def"], 1, 2))

    def test_what_was_there_is_written_over(self):
        pen = pen_with("abc", "def")
        pen.write([("go", 0, 1), ("say", "X")])
        self.assertEqual(state(pen), (["aXc", "def"], 0, 2))
        self.assertEqual(pen.face()[0][0], (("a", 3), ("X", 0), ("c", 3)))

    def test_one_row(self):
        pen = Pen(1, 3)
        pen.write([("say", "abcde")])
        self.assertEqual(state(pen), (["de "], 0, 2))

    def test_one_column(self):
        pen = Pen(3, 1)
        pen.write([("say", "ab")])
        self.assertEqual(state(pen), (["a", "b", " "], 1, 0))
        pen.write([("say", "cd")])
        self.assertEqual(state(pen), (["b", "c", "d"], 2, 0))

    def test_one_cell(self):
        pen = Pen(1, 1)
        pen.write([("say", "a")])
        self.assertEqual(state(pen), (["a"], 0, 0))
        pen.write([("say", "bc")])
        self.assertEqual(state(pen), (["c"], 0, 0))

    def test_two_hundred_signs(self):
        pen = Pen(10, 20)
        pen.write([("say", "".join(SIGNS[at % 94] for at in range(200)))])
        self.assertEqual("".join(shown(pen.face())), (SIGNS * 3)[:200])
        self.assertEqual(pen.face()[1:], (9, 19))


class TestMoves(unittest.TestCase):
    def test_line_keeps_the_column(self):
        pen = Pen(3, 4)
        pen.write([("say", "ab"), ("line",), ("say", "c")])
        self.assertEqual(state(pen), (["ab  ", "  c ", "    "], 1, 3))

    def test_line_in_the_last_row_rolls(self):
        pen = pen_with("abc", "def")
        pen.write([("go", 1, 1), ("line",)])
        self.assertEqual(state(pen), (["def", "   "], 1, 1))

    def test_rows_that_come_have_ink_0(self):
        pen = pen_with("abc", "def")
        pen.write([("ink", 5), ("go", 1, 1), ("line",)])
        self.assertEqual(pen.face()[0][1], ((" ", 0),) * 3)

    def test_line_behind_the_last_column_stays_behind_it(self):
        pen = Pen(3, 3)
        pen.write([("say", "abc"), ("line",)])
        self.assertEqual(state(pen), (["abc", "   ", "   "], 1, 2))
        self.assertTrue(is_behind(pen))
        pen.write([("say", "d")])
        self.assertEqual(state(pen), (["abc", "   ", "d  "], 2, 1))

    def test_line_behind_the_last_column_in_the_last_row(self):
        pen = Pen(2, 3)
        pen.write([("say", "abcdef"), ("line",)])
        self.assertEqual(state(pen), (["def", "   "], 1, 2))
        self.assertTrue(is_behind(pen))

    def test_line_on_one_row(self):
        pen = pen_with("abc")
        pen.write([("go", 0, 1), ("line",)])
        self.assertEqual(state(pen), (["   "], 0, 1))

    def test_line_on_one_column(self):
        pen = Pen(2, 1)
        pen.write([("say", "a"), ("line",)])
        self.assertEqual(state(pen), (["a", " "], 1, 0))
        self.assertTrue(is_behind(pen))

    def test_home(self):
        pen = Pen(2, 3)
        pen.write([("say", "ab"), ("home",)])
        self.assertEqual(state(pen), (["ab ", "   "], 0, 0))
        pen.write([("home",)])
        self.assertEqual(state(pen), (["ab ", "   "], 0, 0))

    def test_home_from_behind_the_last_column(self):
        pen = Pen(2, 3)
        pen.write([("say", "abc"), ("home",), ("say", "X")])
        self.assertEqual(state(pen), (["Xbc", "   "], 0, 1))

    def test_home_on_one_column_from_behind(self):
        pen = Pen(2, 1)
        pen.write([("say", "a"), ("home",), ("say", "b")])
        self.assertEqual(state(pen), (["b", " "], 0, 0))

    def test_back(self):
        pen = Pen(2, 4)
        pen.write([("say", "abc"), ("back",)])
        self.assertEqual(state(pen), (["abc ", "    "], 0, 2))
        pen.write([("back",), ("back",)])
        self.assertEqual(state(pen)[1:], (0, 0))

    def test_back_is_not_ahead_of_0_nor_in_the_row_above(self):
        pen = Pen(2, 4)
        pen.write([("go", 1, 0), ("back",)])
        self.assertEqual(state(pen)[1:], (1, 0))

    def test_back_from_behind_goes_ahead_of_the_last_column(self):
        pen = Pen(2, 3)
        pen.write([("say", "abc"), ("back",)])
        self.assertEqual(state(pen)[1:], (0, 1))
        pen.write([("say", "X")])
        self.assertEqual(state(pen), (["aXc", "   "], 0, 2))

    def test_back_on_one_column_from_behind(self):
        pen = Pen(2, 1)
        pen.write([("say", "a"), ("back",), ("say", "b")])
        self.assertEqual(state(pen), (["b", " "], 0, 0))

    def test_go(self):
        pen = Pen(3, 4)
        for row in range(3):
            for column in range(4):
                pen.write([("go", row, column)])
                self.assertEqual(state(pen)[1:], (row, column))
                self.assertFalse(is_behind(pen))

    def test_go_beyond(self):
        pen = Pen(3, 4)
        for row, column, there in [(3, 0, (2, 0)), (0, 4, (0, 3)), (99, 99, (2, 3)), (99, 1, (2, 1)), (1, 99, (1, 3))]:
            pen.write([("go", row, column)])
            self.assertEqual(state(pen)[1:], there)
            self.assertFalse(is_behind(pen))

    def test_go_from_behind_to_the_last_column(self):
        pen = Pen(2, 3)
        pen.write([("say", "abc"), ("go", 0, 2)])
        self.assertFalse(is_behind(pen))
        pen.write([("say", "X")])
        self.assertEqual(state(pen), (["abX", "   "], 0, 2))

    def test_ink_moves_nothing(self):
        pen = Pen(2, 3)
        pen.write([("say", "abc"), ("ink", 7)])
        self.assertEqual(pen.face(), (rows_of("abc", "   "), 0, 2))
        self.assertTrue(is_behind(pen))
        pen.write([("say", "d")])
        self.assertEqual(pen.face()[0][1][0], ("d", 7))

    def test_ink_stays_from_one_writing_to_the_next(self):
        pen = Pen(1, 3)
        pen.write([("ink", 4)])
        pen.write([("say", "a")])
        pen.write([("say", "b"), ("ink", 1), ("say", "c")])
        self.assertEqual(pen.face()[0][0], (("a", 4), ("b", 4), ("c", 1)))


class TestCells(unittest.TestCase):
    """wipe, roll, open, cut, more and less."""

    def check(self, texts, ahead, deed, then):
        """After going there, or saying, the deed makes these texts, the cursor stays, and what comes is blank."""
        pen = pen_with(*texts)
        pen.write([("ink", 6)] + ahead)
        behind = is_behind(pen)
        cursor = pen.face()[1:]
        pen.write([deed])
        self.assertEqual(state(pen), (then, cursor[0], cursor[1]))
        self.assertEqual(is_behind(pen), behind)
        for cells in pen.face()[0]:
            for sign, ink in cells:
                self.assertEqual(ink, 0 if sign == " " else 6 if sign == "Z" else 3)

    def test_wipe(self):
        texts = ["abcd", "efgh", "ijkl"]
        self.check(texts, [("go", 1, 2)], ("wipe", "row"), ["abcd", "    ", "ijkl"])
        self.check(texts, [("go", 1, 2)], ("wipe", "rest"), ["abcd", "ef  ", "ijkl"])
        self.check(texts, [("go", 1, 0)], ("wipe", "rest"), ["abcd", "    ", "ijkl"])
        self.check(texts, [("go", 1, 3)], ("wipe", "rest"), ["abcd", "efg ", "ijkl"])
        self.check(texts, [("go", 1, 2)], ("wipe", "all"), ["    ", "    ", "    "])

    def test_wipe_from_behind_the_last_column(self):
        ahead = [("go", 1, 3), ("say", "Z")]
        texts = ["abcd", "efgh"]
        self.check(texts, ahead, ("wipe", "rest"), ["abcd", "efg "])
        self.check(texts, ahead, ("wipe", "row"), ["abcd", "    "])
        self.check(texts, ahead, ("wipe", "all"), ["    ", "    "])
        self.check(["a", "b"], [("say", "Z")], ("wipe", "rest"), [" ", "b"])

    def test_wipe_takes_away_inks_of_blanks(self):
        pen = Pen(2, 2)
        pen.write([("ink", 5), ("say", "    "), ("wipe", "row")])
        self.assertEqual(pen.face()[0], (((" ", 5),) * 2, ((" ", 0),) * 2))
        pen.write([("wipe", "all")])
        self.assertEqual(pen.face()[0], blank(2, 2)[0])

    def test_wipe_keeps_the_ink(self):
        pen = Pen(1, 2)
        pen.write([("ink", 5), ("wipe", "all"), ("say", "a")])
        self.assertEqual(pen.face()[0][0][0], ("a", 5))

    def test_roll(self):
        texts = ["abc", "def", "ghi"]
        for by, then in [
            (0, ["abc", "def", "ghi"]),
            (1, ["def", "ghi", "   "]),
            (2, ["ghi", "   ", "   "]),
            (3, ["   ", "   ", "   "]),
            (4, ["   ", "   ", "   "]),
            (99, ["   ", "   ", "   "]),
            (-1, ["   ", "abc", "def"]),
            (-2, ["   ", "   ", "abc"]),
            (-3, ["   ", "   ", "   "]),
            (-4, ["   ", "   ", "   "]),
            (-99, ["   ", "   ", "   "]),
        ]:
            self.check(texts, [], ("roll", by), then)
            self.check(texts, [("go", 1, 1)], ("roll", by), then)

    def test_roll_from_behind_the_last_column(self):
        self.check(["abc", "def"], [("go", 0, 2), ("say", "Z")], ("roll", 1), ["def", "   "])
        self.check(["abc", "def"], [("go", 0, 2), ("say", "Z")], ("roll", -1), ["   ", "abZ"])
        self.check(["abc", "def"], [("go", 0, 2), ("say", "Z")], ("roll", 0), ["abZ", "def"])

    def test_roll_on_one_row(self):
        self.check(["abc"], [("go", 0, 1)], ("roll", 1), ["   "])
        self.check(["abc"], [("go", 0, 1)], ("roll", -1), ["   "])
        self.check(["abc"], [("go", 0, 1)], ("roll", 0), ["abc"])

    def test_open(self):
        for many, then in [(0, "abcde"), (1, "a bcd"), (3, "a   b"), (4, "a    "), (5, "a    "), (99, "a    ")]:
            self.check(["ABCDE", "abcde", "FGHIJ"], [("go", 1, 1)], ("open", many), ["ABCDE", then, "FGHIJ"])
        self.check(["abc"], [("go", 0, 0)], ("open", 3), ["   "])
        self.check(["abc"], [("go", 0, 0)], ("open", 2), ["  a"])
        self.check(["abc"], [("go", 0, 2)], ("open", 1), ["ab "])

    def test_open_from_behind_the_last_column(self):
        for many, then in [(0, "abZ"), (1, "ab "), (2, "ab "), (99, "ab ")]:
            self.check(["abc", "def"], [("go", 0, 2), ("say", "Z")], ("open", many), [then, "def"])
        self.check(["a"], [("say", "Z")], ("open", 1), [" "])

    def test_cut(self):
        for many, then in [(0, "abcde"), (1, "acde "), (3, "ae   "), (4, "a    "), (5, "a    "), (99, "a    ")]:
            self.check(["ABCDE", "abcde", "FGHIJ"], [("go", 1, 1)], ("cut", many), ["ABCDE", then, "FGHIJ"])
        self.check(["abc"], [("go", 0, 0)], ("cut", 3), ["   "])
        self.check(["abc"], [("go", 0, 0)], ("cut", 2), ["c  "])
        self.check(["abc"], [("go", 0, 2)], ("cut", 1), ["ab "])

    def test_cut_from_behind_the_last_column(self):
        for many, then in [(0, "abZ"), (1, "ab "), (2, "ab "), (99, "ab ")]:
            self.check(["abc", "def"], [("go", 0, 2), ("say", "Z")], ("cut", many), [then, "def"])
        self.check(["a"], [("say", "Z")], ("cut", 1), [" "])

    def test_more(self):
        texts = ["aa", "bb", "cc", "dd"]
        for many, then in [
            (0, ["aa", "bb", "cc", "dd"]),
            (1, ["aa", "  ", "bb", "cc"]),
            (2, ["aa", "  ", "  ", "bb"]),
            (3, ["aa", "  ", "  ", "  "]),
            (4, ["aa", "  ", "  ", "  "]),
            (99, ["aa", "  ", "  ", "  "]),
        ]:
            self.check(texts, [("go", 1, 1)], ("more", many), then)
        self.check(texts, [("go", 0, 0)], ("more", 1), ["  ", "aa", "bb", "cc"])
        self.check(texts, [("go", 3, 0)], ("more", 1), ["aa", "bb", "cc", "  "])
        self.check(["ab"], [("go", 0, 1)], ("more", 1), ["  "])

    def test_less(self):
        texts = ["aa", "bb", "cc", "dd"]
        for many, then in [
            (0, ["aa", "bb", "cc", "dd"]),
            (1, ["aa", "cc", "dd", "  "]),
            (2, ["aa", "dd", "  ", "  "]),
            (3, ["aa", "  ", "  ", "  "]),
            (4, ["aa", "  ", "  ", "  "]),
            (99, ["aa", "  ", "  ", "  "]),
        ]:
            self.check(texts, [("go", 1, 1)], ("less", many), then)
        self.check(texts, [("go", 0, 0)], ("less", 1), ["bb", "cc", "dd", "  "])
        self.check(texts, [("go", 3, 0)], ("less", 1), ["aa", "bb", "cc", "  "])
        self.check(["ab"], [("go", 0, 1)], ("less", 1), ["  "])

    def test_more_and_less_from_behind_the_last_column(self):
        ahead = [("go", 0, 1), ("say", "Z")]
        self.check(["aa", "bb"], ahead, ("more", 1), ["  ", "aZ"])
        self.check(["aa", "bb"], ahead, ("less", 1), ["bb", "  "])
        self.check(["aa", "bb"], ahead, ("more", 0), ["aZ", "bb"])
        self.check(["aa", "bb"], ahead, ("less", 0), ["aZ", "bb"])


class TestWrite(unittest.TestCase):
    def test_a_wrong_deed_behind_good_ones_does_nothing(self):
        for wrong in [("ink", 8), ("say", ""), ("line", 1), None, ("go", 0, True), ["line"], ("roll", 100)]:
            pen = pen_with("abc", "def")
            pen.write([("ink", 4), ("go", 0, 2), ("say", "Z")])
            before = pen.face()
            refused(self, BadDeed, pen.write, [("home",), ("ink", 1), ("say", "xyz"), ("roll", 1), wrong])
            refused(self, BadDeed, pen.write, [wrong, ("home",)])
            refused(self, BadDeed, pen.write, [("home",), wrong, ("home",)])
            self.assertEqual(pen.face(), before)
            pen.write([("say", "q")])
            self.assertEqual(pen.face(), ((before[0][0], (("q", 4), ("e", 3), ("f", 3))), 1, 1))

    def test_each_bad_deed_is_refused(self):
        pen = pen_with("abc", "def")
        before = pen.face()
        for wrong in BAD_DEEDS:
            refused(self, BadDeed, pen.write, [("say", "x"), wrong])
        self.assertEqual(pen.face(), before)

    def test_what_is_no_list_is_refused(self):
        pen = pen_with("abc")
        for thing in [None, 1, "say", ("say", "a"), (("say", "a"),), {("say", "a"): 1}]:
            refused(self, BadDeed, pen.write, thing)
        self.assertEqual(state(pen), (["abc"], 0, 0))

    def test_no_deeds_do_nothing(self):
        pen = pen_with("abc")
        pen.write([])
        self.assertEqual(state(pen), (["abc"], 0, 0))

    def test_the_list_is_as_it_was_and_is_not_kept(self):
        deeds = [("say", "a"), ("line",), ("go", 0, 5), ("cut", 1)]
        told = list(deeds)
        pen = Pen(2, 3)
        pen.write(deeds)
        self.assertEqual(deeds, told)
        before = pen.face()
        deeds.append(("say", "zzz"))
        self.assertEqual(pen.face(), before)

    def test_a_face_that_was_told_stays_as_it_was(self):
        pen = pen_with("abc", "def")
        face = pen.face()
        kept = copy.deepcopy(face)
        pen.write(list(GOOD_DEEDS))
        self.assertEqual(face, kept)
        self.assertNotEqual(pen.face(), kept)

    def test_pens_have_nothing_in_common(self):
        one, other = Pen(2, 3), Pen(2, 3)
        one.write([("ink", 3), ("say", "abcd")])
        self.assertEqual(other.face(), blank(2, 3))
        other.take(one.face())
        other.write([("wipe", "all")])
        self.assertEqual(state(one), (["abc", "d  "], 1, 1))

    def test_faces_are_faces_whatever_is_done(self):
        for height, width in [(1, 1), (1, 5), (5, 1), (3, 4), (10, 20)]:
            pen = Pen(height, width)
            for deed in GOOD_DEEDS + GOOD_DEEDS[::-1]:
                pen.write([deed])
                self.assertIsNone(need_face(pen.face()))
                self.assertEqual((len(pen.face()[0]), len(pen.face()[0][0])), (height, width))

    def test_one_by_one_is_as_all_at_once(self):
        one, other = Pen(3, 4), Pen(3, 4)
        one.write(list(GOOD_DEEDS))
        for deed in GOOD_DEEDS:
            other.write([deed])
        self.assertEqual(one.face(), other.face())


class TestTake(unittest.TestCase):
    def test_it_goes_on_from_cells_and_cursor_with_its_own_ink(self):
        pen = Pen(2, 3)
        pen.write([("ink", 5), ("say", "zzzz")])
        face = (rows_of("abc", "def", ink=2), 0, 1)
        pen.take(face)
        self.assertEqual(pen.face(), face)
        pen.write([("say", "X")])
        self.assertEqual(pen.face(), (((("a", 2), ("X", 5), ("c", 2)), face[0][1]), 0, 2))

    def test_a_cursor_in_the_last_column_is_not_behind_it(self):
        pen = Pen(2, 3)
        pen.write([("say", "abc")])
        pen.take(pen.face())
        self.assertFalse(is_behind(pen))
        pen.write([("say", "X")])
        self.assertEqual(state(pen), (["abX", "   "], 0, 2))

    def test_the_face_is_as_it_was(self):
        face = (rows_of("abc", "def", ink=2), 0, 1)
        kept = copy.deepcopy(face)
        pen = Pen(2, 3)
        pen.take(face)
        pen.write(list(GOOD_DEEDS))
        self.assertEqual(face, kept)

    def test_refused_ones_change_nothing(self):
        pen = Pen(2, 3)
        pen.write([("ink", 5), ("say", "abc")])
        before = pen.face()
        wrong = [(rows_of("abc", "def"), 2, 0), (rows_of("abc", "de"), 0, 0), (rows_of("ab%", "def"), 0, 0)]
        sizes = [blank(1, 3), blank(3, 3), blank(2, 2), blank(2, 4), blank(3, 2), blank(1, 1), blank(1, 6)]
        for thing in NO_TUPLES + [(), before[0], list(before)] + wrong + sizes:
            refused(self, BadFace, pen.take, thing)
            self.assertEqual(pen.face(), before)
            self.assertTrue(is_behind(pen))
        pen.write([("say", "d")])
        self.assertEqual(pen.face()[0][1][0], ("d", 5))


if __name__ == "__main__":
    unittest.main()
