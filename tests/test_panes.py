"""[91], [92] and [93], and [1] to [3] of them: layouts, and faces put together and taken apart."""

import copy
import random
import unittest

from farpanes.errors import BadFace, BadLayout, BadName
from farpanes.faces import blank, need_face, shown
from farpanes.panes import areas, joined, need_layout, parted
from farpanes.words import written_layout
from tests.common import NO_FACES, NO_NUMBERS, NO_TEXTS, NO_TUPLES, face_of, refused, rows_of

HUGE = 10 ** 5000
A, B, C, D = (("pane", name) for name in "abcd")
NAMES = [one + other for one in "abcdefghijklmnopqrstuvwxyz" for other in "abcdefghijklmnopqrstuvwxyz"]


def pane(number):
    return "pane", NAMES[number]


def deep(many, way="beside", inner=2):
    """A layout of which one lies in so many others, as the one or the other of each."""
    layout = pane(0)
    for number in range(1, many + 1):
        parts = (layout, pane(number)) if inner == 2 else (pane(number), layout)
        layout = (way, 1, *parts)
    return layout


def bushy(depth, first=0):
    """A layout with all panes at one depth."""
    if depth == 0:
        return pane(first)
    half = 2 ** (depth - 1)
    return ("beside", "below")[depth % 2], 1, bushy(depth - 1, first), bushy(depth - 1, first + half)


GOOD_LAYOUTS = (
    [("pane", name) for name in ("a", "z", "ab", "abcdefgh", "zzzzzzzz", "pane", "beside", "below")]
    + [(way, many, A, B) for way in ("beside", "below") for many in range(1, 21)]
    + [("beside", 1, ("below", 2, A, B), C), ("beside", 1, A, ("below", 2, B, C)), ("below", 3, ("below", 3, A, B), C)]
    + [("below", 1, ("beside", 20, A, B), ("below", 20, C, D)), ("beside", 1, ("pane", "a"), ("pane", "aa"))]
    + [deep(many, way, inner) for many in (2, 5, 11, 12) for way in ("beside", "below") for inner in (2, 3)]
    + [bushy(4), bushy(8)]
)

NO_NAMES = ["", "abcdefghi", "x" * 100, "A", "aB", "a1", "1", "a b", " a", "a ", "a-b", "a_b", "a%", "a\n", "\n", "\xe9"]
NO_NAMES += ["\u0430", "`", "{", "ab{", "~", "\ud800", "\xb5"] + NO_TEXTS

BAD_LAYOUTS = (
    NO_TUPLES
    + [(), ("",), (None,), ("pane",), ("pane", "a", "b"), ("pane", A), ("a",), ("a", "b"), A + A, (A,), (A, B)]
    + [["pane", "a"], [A], ["beside", 1, A, B], ("beside", 1, ["pane", "a"], B), ("beside", 1, A, ["pane", "b"])]
    + [("beside",), ("beside", 1), ("beside", 1, A), ("beside", 1, A, B, C), ("below", A, B), ("below", 1, A, B, 1)]
    + [("beside", A, B, 1), ("beside", A, 1, B), (1, "beside", A, B), ("pane", 1, A, B), ("pane", "a", A, B)]
    + [(word, "a") for word in ("Pane", "panes", "pane ", "", "beside", "below")]
    + [(word, 1, A, B) for word in ("Beside", "besides", "beside ", "above", "", "pane", "Below", "b")]
    + [(thing, "a") for thing in NO_TEXTS]
    + [(thing, 1, A, B) for thing in NO_TEXTS]
    + [("pane", thing) for thing in NO_NAMES]
    + [("beside", 1, A, ("pane", thing)) for thing in NO_NAMES]
    + [("below", 1, ("pane", thing), A) for thing in NO_NAMES]
    + [("beside", thing, A, B) for thing in NO_NUMBERS + [0, -1, 21, 22, 100, HUGE, -HUGE]]
    + [("below", thing, A, B) for thing in NO_NUMBERS + [0, -1, 21, 22, 100, HUGE, -HUGE]]
    + [("beside", 1, A, ("below", thing, B, C)) for thing in (0, 21, True, False, "1", None)]
    + [("beside", 1, thing, A) for thing in NO_TUPLES + ["a", ("a",)]]
    + [("below", 1, A, thing) for thing in NO_TUPLES + ["a", ("a",)]]
    + [("beside", 1, A, A), ("below", 1, A, A), ("beside", 1, A, ("below", 1, B, A)), ("beside", 1, ("below", 1, A, A), B)]
    + [("beside", 1, ("below", 1, A, B), ("below", 1, C, B)), ("beside", 1, ("beside", 1, A, B), ("beside", 1, C, A))]
    + [deep(many, way, inner) for many in (13, 14, 50) for way in ("beside", "below") for inner in (2, 3)]
    + [deep(500, "below", 3)]
)


def endless(many):
    """A layout that is far too deep for Python to go down into, with one name only."""
    layout = A
    for at in range(many):
        layout = ("beside", 1, layout, B)
    return layout


class Equal:
    """Equal to each word, and yet none."""

    def __eq__(self, other):
        return True


class TestNeedLayout(unittest.TestCase):
    def test_what_is_a_layout(self):
        for layout in GOOD_LAYOUTS:
            self.assertIsNone(need_layout(layout), layout)

    def test_each_letter(self):
        for letter in "abcdefghijklmnopqrstuvwxyz":
            self.assertIsNone(need_layout(("pane", letter)))

    def test_all_else_is_refused(self):
        for layout in BAD_LAYOUTS:
            refused(self, BadLayout, need_layout, layout)

    def test_in_12_others_and_in_13(self):
        for way in ("beside", "below"):
            for inner in (2, 3):
                self.assertIsNone(need_layout(deep(12, way, inner)))
                refused(self, BadLayout, need_layout, deep(13, way, inner))
        self.assertIsNone(need_layout(("beside", 1, deep(11), ("pane", "zz"))))
        refused(self, BadLayout, need_layout, ("beside", 1, deep(12), ("pane", "zz")))
        refused(self, BadLayout, need_layout, ("below", 1, ("pane", "zz"), deep(12)))

    def test_far_too_deep(self):
        refused(self, BadLayout, need_layout, endless(100000))

    def test_words_and_names_are_texts(self):
        refused(self, BadLayout, need_layout, (Equal(), "a"))
        refused(self, BadLayout, need_layout, (Equal(), 1, A, B))
        refused(self, BadLayout, need_layout, ("pane", Equal()))

    def test_others_refuse_the_same(self):
        face = blank(10, 20)
        for layout in BAD_LAYOUTS + [endless(100000)]:
            refused(self, BadLayout, areas, layout, 10, 20)
            refused(self, BadLayout, joined, layout, 10, 20, {}, "a")
            refused(self, BadLayout, joined, layout, 10, 20, {"a": face}, "a")
            refused(self, BadLayout, parted, layout, face)
            refused(self, BadLayout, written_layout, layout)

    def test_no_layout_is_told_first(self):
        for layout in [None, ("pane",), ("beside", 0, A, B), ("beside", 1, A, A), deep(13)]:
            for size in [(0, 0), (11, 20), (True, None)]:
                refused(self, BadLayout, areas, layout, *size)
                refused(self, BadLayout, joined, layout, *size, {}, 1)
            refused(self, BadLayout, parted, layout, None)


class TestAreas(unittest.TestCase):
    def test_one_pane(self):
        for height in range(1, 11):
            for width in range(1, 21):
                self.assertEqual(areas(A, height, width), [("a", 0, 0, height, width)])

    def test_beside(self):
        for many in range(1, 19):
            told = areas(("beside", many, A, B), 10, 20)
            self.assertEqual(told, [("a", 0, 0, 10, many), ("b", 0, many + 1, 10, 19 - many)])

    def test_below(self):
        for many in range(1, 9):
            told = areas(("below", many, A, B), 10, 20)
            self.assertEqual(told, [("a", 0, 0, many, 20), ("b", many + 1, 0, 9 - many, 20)])

    def test_within_one_another(self):
        layout = ("beside", 7, ("below", 2, D, ("beside", 3, A, B)), ("below", 5, C, ("pane", "e")))
        self.assertEqual(areas(layout, 10, 20), [
            ("d", 0, 0, 2, 7),
            ("a", 3, 0, 7, 3),
            ("b", 3, 4, 7, 3),
            ("c", 0, 8, 5, 12),
            ("e", 6, 8, 4, 12),
        ])

    def test_the_order_is_that_of_the_layout(self):
        for layout in [("beside", 1, B, A), ("below", 1, B, A), ("beside", 1, ("below", 1, D, B), ("below", 1, C, A))]:
            names = [name for name, *place in areas(layout, 10, 20)]
            self.assertEqual(names, [letter for letter in written_layout(layout).split(" ") if letter in "abcd"])

    def test_kinds(self):
        told = areas(("beside", 1, A, B), 2, 3)
        self.assertIs(type(told), list)
        for place in told:
            self.assertIs(type(place), tuple)
            self.assertEqual([type(part) for part in place], [str, int, int, int, int])

    def test_it_is_a_new_list_each_time(self):
        layout = ("beside", 1, A, B)
        first = areas(layout, 2, 3)
        kept = list(first)
        first.clear()
        self.assertEqual(areas(layout, 2, 3), kept)
        self.assertEqual(layout, ("beside", 1, A, B))

    def test_sizes_that_can_not_be(self):
        for layout in (A, ("beside", 1, A, B), ("below", 20, A, B)):
            for thing in NO_NUMBERS + [0, -1, 21, HUGE, -HUGE]:
                refused(self, BadFace, areas, layout, thing, 5)
                refused(self, BadFace, areas, layout, 5, thing)
            refused(self, BadFace, areas, layout, 11, 5)
            refused(self, BadFace, areas, layout, 0, 0)

    def test_the_very_edge_of_room(self):
        for many in range(1, 21):
            for width in range(1, 21):
                layout = ("beside", many, A, B)
                if width >= many + 2:
                    self.assertEqual(areas(layout, 1, width)[1], ("b", 0, many + 1, 1, width - many - 1))
                else:
                    refused(self, BadLayout, areas, layout, 1, width)
            for height in range(1, 11):
                layout = ("below", many, A, B)
                if height >= many + 2:
                    self.assertEqual(areas(layout, height, 1)[1], ("b", many + 1, 0, height - many - 1, 1))
                else:
                    refused(self, BadLayout, areas, layout, height, 1)

    def test_the_edge_deep_within(self):
        # Five panes side by side of one column each, bars between: 9 columns.
        for inner in (2, 3):
            layout = deep(4, "beside", inner)
            if inner == 2:
                # The inner ones have one column at most here: too few for two panes.
                refused(self, BadLayout, areas, layout, 1, 20)
            else:
                self.assertEqual([place[4] for place in areas(layout, 1, 9)], [1] * 5)
                refused(self, BadLayout, areas, layout, 1, 8)
        layout = ("below", 4, ("beside", 5, ("below", 2, A, B), C), D)
        self.assertEqual(len(areas(layout, 6, 7)), 4)
        for height, width in [(5, 7), (6, 6), (4, 20), (10, 5), (1, 1)]:
            refused(self, BadLayout, areas, layout, height, width)
        refused(self, BadLayout, areas, ("below", 4, ("beside", 5, ("below", 3, A, B), C), D), 10, 20)
        refused(self, BadLayout, areas, ("below", 4, ("beside", 5, ("beside", 4, A, B), C), D), 10, 20)

    def test_no_room_though_a_number_would_make_some(self):
        # What lies in something without a column has none, whatever its own number is.
        for inner in [("beside", 3, B, C), ("below", 3, B, C), ("beside", 20, B, C)]:
            refused(self, BadLayout, areas, ("beside", 19, A, inner), 10, 20)
            refused(self, BadLayout, areas, ("below", 9, A, inner), 10, 20)

    def test_the_deepest_layout(self):
        layout = ("pane", "zz")
        for at, name in enumerate(NAMES[:12]):
            layout = ("beside" if at < 8 else "below", 1, ("pane", name), layout)
        self.assertEqual(len(areas(layout, 10, 20)), 13)

    def test_sizes_are_told_ahead_of_room(self):
        refused(self, BadFace, areas, ("beside", 20, A, B), 0, 20)
        refused(self, BadFace, areas, ("beside", 20, A, B), 10, 21)
        refused(self, BadLayout, areas, ("beside", 20, A, B), 10, 20)


def some_layout(chance, height, width, names, depth=0):
    """Any layout that has room in a size; it takes names from the list."""
    ways = [way for way, room in (("beside", width), ("below", height)) if room >= 3]
    if not ways or depth == 12 or len(names) < 2 or chance.random() < 0.3:
        return "pane", names.pop()
    way = chance.choice(ways)
    many = chance.randint(1, (width if way == "beside" else height) - 2)
    if way == "beside":
        sizes = (height, many), (height, width - many - 1)
    else:
        sizes = (many, width), (height - many - 1, width)
    spare = names.pop()
    one = some_layout(chance, *sizes[0], names, depth + 1)
    names.append(spare)
    return way, many, one, some_layout(chance, *sizes[1], names, depth + 1)


def some_face(chance, height, width):
    rows = tuple(tuple((chance.choice("abc |-"), chance.randint(0, 7)) for at in range(width)) for row in range(height))
    return rows, chance.randrange(height), chance.randrange(width)


def owner(layout, row, column, height, width):
    """Whose a cell is, asked cell by cell: a pane's name with the place in it, or a bar's sign."""
    if layout[0] == "pane":
        return layout[1], row, column
    way, many, one, other = layout
    along = column if way == "beside" else row
    if along < many:
        return owner(one, row, column, height, width)
    if along == many:
        return "|" if way == "beside" else "-"
    if way == "beside":
        return owner(other, row, column - many - 1, height, width)
    return owner(other, row - many - 1, column, height, width)


class TestJoined(unittest.TestCase):
    def test_one_pane(self):
        face = face_of("abc", "def", row=1, column=2, ink=3)
        self.assertEqual(joined(A, 2, 3, {"a": face}, "a"), face)

    def test_beside(self):
        faces = {"a": face_of("ab", "cd", row=1, column=1, ink=3), "b": face_of("x", "y", row=1, ink=4)}
        for name, place in [("a", (1, 1)), ("b", (1, 3))]:
            face = joined(("beside", 2, A, B), 2, 4, faces, name)
            self.assertEqual(shown(face), ["ab|x", "cd|y"])
            self.assertEqual(face[0][0], (("a", 3), ("b", 3), ("|", 0), ("x", 4)))
            self.assertEqual(face[1:], place)

    def test_below(self):
        faces = {"b": face_of("xyz", "uvw", row=1, column=2, ink=4), "a": face_of("abc", column=1, ink=3)}
        for name, place in [("a", (0, 1)), ("b", (3, 2))]:
            face = joined(("below", 1, A, B), 4, 3, faces, name)
            self.assertEqual(shown(face), ["abc", "---", "xyz", "uvw"])
            self.assertEqual(face[0][1], (("-", 0),) * 3)
            self.assertEqual(face[1:], place)

    def test_within_one_another(self):
        layout = ("beside", 2, ("below", 1, A, B), ("below", 2, C, D))
        faces = {"a": face_of("aa"), "b": face_of("bb", "bb"), "c": face_of("cc", "cc"), "d": face_of("dd")}
        face = joined(layout, 4, 5, faces, "d")
        self.assertEqual(shown(face), ["aa|cc", "--|cc", "bb|--", "bb|dd"])
        self.assertEqual(face[1:], (3, 3))

    def test_blanks_with_inks(self):
        faces = {"a": ((((" ", 5),),), 0, 0), "b": ((((" ", 0),),), 0, 0)}
        self.assertEqual(joined(("beside", 1, A, B), 1, 3, faces, "b"), ((((" ", 5), ("|", 0), (" ", 0)),), 0, 2))

    def test_names(self):
        layout, face = ("beside", 1, A, B), blank(1, 1)
        good = {"a": face, "b": face}
        joined(layout, 1, 3, good, "a")
        for faces in [{}, {"a": face}, {"b": face}, {**good, "c": face}, {"a": face, "c": face}, {"a": face, "B": face}]:
            refused(self, BadName, joined, layout, 1, 3, faces, "a")
        for faces in [{"a": face, 1: face}, {"a": face, None: face}, {**good, ("b",): face}, {"a": face, "": face}]:
            refused(self, BadName, joined, layout, 1, 3, faces, "a")
        for name in ["c", "A", "", "ab", "a ", "pane", "beside"] + NO_TEXTS:
            refused(self, BadName, joined, layout, 1, 3, good, name)
        refused(self, BadName, joined, layout, 1, 3, good, Equal())
        for faces in [None, [], ["a", "b"], ("a", "b"), "ab", {"a", "b"}, [("a", face), ("b", face)], 1]:
            refused(self, BadName, joined, layout, 1, 3, faces, "a")

    def test_faces(self):
        layout = ("beside", 1, A, B)
        good = {"a": blank(2, 1), "b": blank(2, 3)}
        joined(layout, 2, 5, good, "a")
        for name in "ab":
            for told in "ab":
                for thing in NO_FACES + [blank(1, 1), blank(2, 2), blank(3, 1), blank(3, 3), blank(2, 5), blank(2, 4)]:
                    refused(self, BadFace, joined, layout, 2, 5, {**good, name: thing}, told)
        refused(self, BadFace, joined, layout, 2, 5, {"a": good["b"], "b": good["a"]}, "a")

    def test_which_refusal_comes_first(self):
        layout = ("beside", 1, A, B)
        refused(self, BadFace, joined, layout, 11, 5, {}, "z")
        refused(self, BadFace, joined, layout, 2, True, {"a": None}, "z")
        refused(self, BadFace, joined, ("beside", 20, A, B), 0, 20, {}, "z")
        refused(self, BadLayout, joined, ("beside", 20, A, B), 10, 20, {}, "z")
        refused(self, BadLayout, joined, layout, 2, 2, {"a": None}, "z")
        refused(self, BadName, joined, layout, 2, 5, {"a": None}, "a")
        refused(self, BadName, joined, layout, 2, 5, {"a": None, "b": None}, "z")
        refused(self, BadFace, joined, layout, 2, 5, {"a": None, "b": None}, "a")

    def test_the_dict_is_as_it_was(self):
        faces = {"b": face_of("xy"), "a": face_of("cd", column=1)}
        kept = copy.deepcopy(faces)
        joined(("beside", 2, A, B), 1, 5, faces, "a")
        refused(self, BadName, joined, ("beside", 2, A, B), 1, 5, faces, "c")
        self.assertEqual(faces, kept)
        self.assertEqual(list(faces), ["b", "a"])


class TestParted(unittest.TestCase):
    def test_one_pane(self):
        face = face_of("abc", "def", row=1, column=2, ink=3)
        self.assertEqual(parted(A, face), {"a": face})

    def test_cells_and_cursors(self):
        rows = rows_of("abcd", "efgh", "ijkl", ink=2)
        one, other = rows_of("ab", "ef", "ij", ink=2), rows_of("d", "h", "l", ink=2)
        for row in range(3):
            for column in range(4):
                told = parted(("beside", 2, A, B), (rows, row, column))
                places = [(row, column) if column < 2 else (0, 0), (row, 0) if column == 3 else (0, 0)]
                self.assertEqual(told, {"a": (one, *places[0]), "b": (other, *places[1])})
                told = parted(("below", 1, B, A), (rows, row, column))
                places = [(0, column) if row == 0 else (0, 0), (0, column) if row == 2 else (0, 0)]
                self.assertEqual(told, {"b": (rows[:1], *places[0]), "a": (rows[2:], *places[1])})

    def test_a_cursor_on_a_bar(self):
        told = parted(("beside", 1, A, ("below", 1, B, C)), face_of("abc", "def", "ghi", row=1, column=1))
        self.assertEqual([face[1:] for face in told.values()], [(0, 0)] * 3)
        told = parted(("beside", 1, A, ("below", 1, B, C)), face_of("abc", "def", "ghi", row=1, column=2))
        self.assertEqual([face[1:] for face in told.values()], [(0, 0)] * 3)
        told = parted(("beside", 1, A, ("below", 1, B, C)), face_of("abc", "def", "ghi", row=2, column=2))
        self.assertEqual(told["c"], face_of("i"))

    def test_kinds(self):
        told = parted(("beside", 1, A, B), blank(2, 3))
        self.assertIs(type(told), dict)
        for face in told.values():
            self.assertIsNone(need_face(face))

    def test_it_is_a_new_dict_each_time(self):
        layout, face = ("beside", 1, A, B), face_of("abc", "def", column=2)
        first = parted(layout, face)
        kept = copy.deepcopy(first)
        first.clear()
        self.assertEqual(parted(layout, face), kept)
        self.assertEqual(face, face_of("abc", "def", column=2))

    def test_refusals(self):
        for thing in NO_FACES:
            refused(self, BadFace, parted, A, thing)
            refused(self, BadFace, parted, ("beside", 20, A, B), thing)
        refused(self, BadLayout, parted, ("beside", 1, A, B), blank(5, 2))
        refused(self, BadLayout, parted, ("below", 1, A, B), blank(2, 5))
        refused(self, BadLayout, parted, ("beside", 20, A, B), blank(10, 20))


class TestPutTogetherAndTakenApart(unittest.TestCase):
    def test_many_layouts(self):
        for seed in range(300):
            chance = random.Random(seed)
            height, width = chance.randint(1, 10), chance.randint(1, 20)
            names = chance.sample(NAMES, 40)
            layout = some_layout(chance, height, width, names)
            self.check_areas(layout, height, width)
            self.check_joined(chance, layout, height, width)
            self.check_parted(layout, some_face(chance, height, width))

    def check_areas(self, layout, height, width):
        """Each cell is one pane's, the one that a search cell by cell finds, or a bar's."""
        cells = {}
        for name, top, left, rows, columns in areas(layout, height, width):
            for row in range(rows):
                for column in range(columns):
                    self.assertNotIn((top + row, left + column), cells)
                    cells[top + row, left + column] = (name, row, column)
        for row in range(height):
            for column in range(width):
                found = owner(layout, row, column, height, width)
                self.assertEqual(cells.pop((row, column), None), None if found in ("|", "-") else found)
        self.assertEqual(cells, {})

    def check_joined(self, chance, layout, height, width):
        faces = {name: some_face(chance, rows, columns) for name, top, left, rows, columns in areas(layout, height, width)}
        for told in faces:
            face = joined(layout, height, width, faces, told)
            need_face(face)
            self.assertEqual((len(face[0]), len(face[0][0])), (height, width))
            for row in range(height):
                for column in range(width):
                    found = owner(layout, row, column, height, width)
                    wanted = (found, 0) if found in ("|", "-") else faces[found[0]][0][found[1]][found[2]]
                    self.assertEqual(face[0][row][column], wanted)
            self.assertEqual(owner(layout, *face[1:], height, width), (told, *faces[told][1:]))
            back = parted(layout, face)
            self.assertEqual({name: back[name][0] for name in back}, {name: faces[name][0] for name in faces})
            for name in back:
                self.assertEqual(back[name][1:], faces[name][1:] if name == told else (0, 0))

    def check_parted(self, layout, face):
        height, width = len(face[0]), len(face[0][0])
        parts = parted(layout, face)
        self.assertEqual(list(parts), [name for name, *place in areas(layout, height, width)])
        for told in parts:
            again = joined(layout, height, width, parts, told)
            for row in range(height):
                for column in range(width):
                    found = owner(layout, row, column, height, width)
                    wanted = (found, 0) if found in ("|", "-") else face[0][row][column]
                    self.assertEqual(again[0][row][column], wanted)


if __name__ == "__main__":
    unittest.main()
