"""[11] and [12], and [1] and [3] of them: faces."""

import copy
import unittest

from farpanes.errors import BadFace
from farpanes.faces import blank, fitted, need_face, shown
from tests.common import NO_NUMBERS, NO_SIGNS, NO_TEXTS, NO_TUPLES, SIGNS, refused, rows_of


def plain_face(height, width, row=0, column=0):
    """A face of that size whose cells are all unlike blanks, made without the program."""
    return tuple((("x", 1),) * width for at in range(height)), row, column


class TestNeedFace(unittest.TestCase):
    def refuse(self, face):
        refused(self, BadFace, need_face, face)

    def test_all_sizes_pass_with_the_cursor_in_each_corner(self):
        for height in range(1, 11):
            for width in range(1, 21):
                for row in (0, height - 1):
                    for column in (0, width - 1):
                        self.assertIsNone(need_face(plain_face(height, width, row, column)))

    def test_all_signs_and_inks_pass(self):
        for sign in SIGNS:
            for ink in range(8):
                self.assertIsNone(need_face(((((sign, ink),),), 0, 0)))

    def test_other_kinds_are_no_face(self):
        for thing in NO_TUPLES:
            self.refuse(thing)

    def test_only_triples(self):
        rows = rows_of("ab")
        for thing in [(), (rows,), (rows, 0), (rows, 0, 0, 0), [rows, 0, 0]]:
            self.refuse(thing)

    def test_other_kinds_are_no_rows(self):
        for thing in NO_TUPLES + ["ab", [(("a", 0),)]]:
            self.refuse((thing, 0, 0))

    def test_other_kinds_are_no_row(self):
        for thing in NO_TUPLES + [[("a", 0)]]:
            self.refuse(((thing,), 0, 0))
            self.refuse(((rows_of("a")[0], thing), 0, 0))
            self.refuse(((thing, rows_of("a")[0]), 0, 0))

    def test_other_kinds_are_no_cell(self):
        for thing in NO_TUPLES + [["a", 0], (), ("a",), ("a", 0, 0), (0, "a")]:
            self.refuse((((thing,),), 0, 0))
            self.refuse(((rows_of("a")[0] + (thing,),), 0, 0))
            self.refuse(((rows_of("ab")[0], (("a", 0), thing)), 0, 0))

    def test_no_rows_and_empty_rows(self):
        self.refuse(((), 0, 0))
        self.refuse((((),), 0, 0))
        self.refuse((((), ()), 0, 0))

    def test_too_many_rows_or_columns(self):
        self.refuse(plain_face(11, 1))
        self.refuse(plain_face(11, 20))
        self.refuse(plain_face(1, 21))
        self.refuse(plain_face(10, 21))
        self.refuse(plain_face(200, 200))

    def test_rows_of_unlike_width(self):
        for texts in [("ab", "a"), ("a", "ab"), ("ab", "ab", "abc"), ("ab", ""), ("", "ab"), ("a", "b" * 21)]:
            self.refuse((rows_of(*texts), 0, 0))

    def test_what_is_no_sign(self):
        for thing in NO_SIGNS + NO_TEXTS:
            self.refuse(((((thing, 0),),), 0, 0))
            self.refuse(((rows_of("ab")[0], (("a", 0), (thing, 0))), 0, 0))

    def test_what_is_no_ink(self):
        for thing in NO_NUMBERS + [-1, 8, 10 ** 5000, -10 ** 5000]:
            self.refuse((((("a", thing),),), 0, 0))
            self.refuse(((rows_of("ab")[0], (("a", 0), ("a", thing))), 0, 0))

    def test_what_is_no_cursor(self):
        for thing in NO_NUMBERS + [-1, 10 ** 5000, -10 ** 5000]:
            self.refuse(plain_face(2, 3, thing, 0))
            self.refuse(plain_face(2, 3, 0, thing))

    def test_cursors_outside(self):
        self.refuse(plain_face(2, 3, 2, 0))
        self.refuse(plain_face(2, 3, 0, 3))
        self.refuse(plain_face(3, 2, 0, 2))
        self.refuse(plain_face(3, 2, 3, 0))
        self.refuse(plain_face(1, 1, 1, 1))


class TestBlank(unittest.TestCase):
    def test_all_sizes(self):
        for height in range(1, 11):
            for width in range(1, 21):
                rows = tuple(tuple((" ", 0) for column in range(width)) for row in range(height))
                self.assertEqual(blank(height, width), (rows, 0, 0))

    def test_kinds(self):
        face = blank(2, 3)
        self.assertIs(type(face), tuple)
        self.assertIs(type(face[0]), tuple)
        self.assertIs(type(face[0][1]), tuple)
        self.assertIs(type(face[0][1][2]), tuple)
        self.assertIsNone(need_face(face))

    def test_sizes_that_can_not_be(self):
        for thing in NO_NUMBERS + [0, -1, 21, 10 ** 5000]:
            refused(self, BadFace, blank, thing, 5)
            refused(self, BadFace, blank, 5, thing)
        refused(self, BadFace, blank, 11, 5)


class TestFitted(unittest.TestCase):
    FACE = (rows_of("abc", "def", ink=5), 1, 2)

    def test_same_size(self):
        self.assertEqual(fitted(self.FACE, 2, 3), self.FACE)

    def test_fewer_rows(self):
        self.assertEqual(fitted(self.FACE, 1, 3), (rows_of("abc", ink=5), 0, 2))

    def test_fewer_columns(self):
        self.assertEqual(fitted(self.FACE, 2, 2), (rows_of("ab", "de", ink=5), 1, 1))

    def test_fewer_of_both(self):
        self.assertEqual(fitted(self.FACE, 1, 1), (rows_of("a", ink=5), 0, 0))

    def test_more_of_both(self):
        self.assertEqual(fitted(self.FACE, 3, 5), (rows_of("abc  ", "def  ", "     ", ink=5), 1, 2))

    def test_more_rows_fewer_columns(self):
        self.assertEqual(fitted(self.FACE, 4, 1), (rows_of("a", "d", " ", " ", ink=5), 1, 0))

    def test_fewer_rows_more_columns(self):
        self.assertEqual(fitted(self.FACE, 1, 4), (rows_of("abc ", ink=5), 0, 2))

    def test_the_cursor_stays_if_its_place_does(self):
        rows = rows_of("abcd", "efgh", "ijkl")
        self.assertEqual(fitted((rows, 1, 1), 2, 2)[1:], (1, 1))
        self.assertEqual(fitted((rows, 0, 0), 1, 1)[1:], (0, 0))
        self.assertEqual(fitted((rows, 2, 1), 2, 2)[1:], (1, 1))
        self.assertEqual(fitted((rows, 1, 3), 2, 2)[1:], (1, 1))
        self.assertEqual(fitted((rows, 2, 3), 10, 20)[1:], (2, 3))

    def test_blanks_with_ink_are_kept(self):
        face = ((((" ", 4),),), 0, 0)
        self.assertEqual(fitted(face, 1, 2), (((((" ", 4)), (" ", 0)),), 0, 0))

    def test_ends_of_sizes(self):
        self.assertIsNone(need_face(fitted(self.FACE, 10, 20)))
        self.assertEqual(fitted(plain_face(10, 20, 9, 19), 1, 1), plain_face(1, 1))

    def test_nothing_handed_in_is_changed(self):
        face = (rows_of("abc", "def", ink=5), 1, 2)
        before = copy.deepcopy(face)
        fitted(face, 1, 5)
        shown(face)
        need_face(face)
        self.assertEqual(face, before)

    def test_refusals(self):
        for thing in NO_NUMBERS + [0, -1, 21, 10 ** 5000]:
            refused(self, BadFace, fitted, self.FACE, thing, 3)
            refused(self, BadFace, fitted, self.FACE, 2, thing)
        refused(self, BadFace, fitted, self.FACE, 11, 3)
        for thing in NO_TUPLES + [(), (rows_of("ab"), 0, 2), (rows_of("ab", "a"), 0, 0)]:
            refused(self, BadFace, fitted, thing, 2, 3)


class TestShown(unittest.TestCase):
    def test_rows_as_texts(self):
        self.assertEqual(shown((rows_of("a c", " ~^", ink=3), 0, 0)), ["a c", " ~^"])
        self.assertEqual(shown(((((" ", 7),),), 0, 0)), [" "])
        self.assertEqual(shown(blank(2, 4)), ["    ", "    "])

    def test_it_is_a_new_list_each_time(self):
        face = blank(1, 2)
        first = shown(face)
        self.assertIs(type(first), list)
        first[0] = "xx"
        first.append("more")
        self.assertEqual(shown(face), ["  "])

    def test_refusals(self):
        for thing in NO_TUPLES + [(), (rows_of("ab"), 0, 2), (rows_of("ab", "a"), 0, 0)]:
            refused(self, BadFace, shown, thing)


if __name__ == "__main__":
    unittest.main()
