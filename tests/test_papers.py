"""[51], and [1] and [3] of it: changes as texts."""

import copy
import random
import unittest

from farpanes.changes import change_of
from farpanes.errors import BadChange
from farpanes.papers import read_change, written_change
from tests.common import NO_SIGNS, NO_TEXTS, SIGNS, refused
from tests.test_changes import BAD_PARTS, HUGE, NO_LISTS
from tests.test_changes_by_search import altered, random_face

WRITTEN = [
    (("roll", -10), "r-10;"),
    (("roll", -1), "r-1;"),
    (("roll", 1), "r1;"),
    (("roll", 10), "r10;"),
    (("cursor", 0, 0), "c0,0;"),
    (("cursor", 9, 19), "c9,19;"),
    (("cursor", 999, 999), "c999,999;"),
    (("cursor", 100, 0), "c100,0;"),
    (("put", 0, 0, 0, "a"), "p0,0,0,1:a"),
    (("put", 9, 19, 7, "~"), "p9,19,7,1:~"),
    (("put", 999, 999, 7, " "), "p999,999,7,1: "),
    (("put", 1, 2, 3, "p1,2,3,4:"), "p1,2,3,9:p1,2,3,4:"),
    (("put", 1, 2, 3, "r1;c0,0;"), "p1,2,3,8:r1;c0,0;"),
    (("put", 1, 2, 3, ":"), "p1,2,3,1::"),
    (("put", 1, 2, 3, "12"), "p1,2,3,2:12"),
    (("put", 0, 0, 0, "^^"), "p0,0,0,2:^^"),
    (("put", 0, 0, 0, SIGNS), "p0,0,0,94:" + SIGNS),
    (("put", 0, 0, 0, "x" * 10), "p0,0,0,10:" + "x" * 10),
    (("put", 0, 0, 0, "x" * 999), "p0,0,0,999:" + "x" * 999),
]

TOO_LONG = [
    ("cursor", 1000, 0),
    ("cursor", 0, 1000),
    ("cursor", HUGE, 0),
    ("cursor", 0, HUGE),
    ("put", 1000, 0, 0, "a"),
    ("put", 0, 1000, 0, "a"),
    ("put", HUGE, 0, 0, "a"),
    ("put", 0, HUGE, 0, "a"),
    ("put", 0, 0, 0, "x" * 1000),
    ("put", 0, 0, 0, "x" * 20000),
]

# No whole number is written so.
NO_FIGURES = ["", "-", "-0", "00", "01", "001", "-01", "+1", "--1", " 1", "1 ", "x", "1x", "0x1", "1_0", "1.", "1-"]
NO_FIGURES += ["\u0663", "\xb2", "1\n", "\n1", "1000", "0001", "-1000", "1" * 5000, "0" * 5000, "%", "1%"]

OTHER_TEXTS = (
    [" ", "\n", "x", "R1;", "C0,0;", "P0,0,0,1:a", ";", ":", "1;", "-", "roll", "r", "c", "p", "%"]
    + ["r1", "r1:", "r1,", "r1,;", "r,1;", "r1,1;", "r0;", "r11;", "r-11;", "r100;", "r-999;", "r 1;", "r1 ;", "r;"]
    + ["c0,0", "c0,0:", "c0;", "c0,0,0;", "c,0;", "c0,;", "c,;", "c;", "c0 ,0;", "c-1,0;", "c0,-1;", "c0;0;"]
    + [f"r{wrong};" for wrong in NO_FIGURES]
    + [f"c{wrong},0;" for wrong in NO_FIGURES]
    + [f"c0,{wrong};" for wrong in NO_FIGURES]
    + [f"p{wrong},0,0,1:a" for wrong in NO_FIGURES]
    + [f"p0,{wrong},0,1:a" for wrong in NO_FIGURES]
    + [f"p0,0,{wrong},1:a" for wrong in NO_FIGURES]
    + [f"p0,0,0,{wrong}:a" for wrong in NO_FIGURES]
    + ["p0,0,0,0:", "p0,0,0,0:a", "p0,0,0,1:", "p0,0,0,2:a", "p0,0,0,1:ab", "p0,0,0,-1:", "p0,0,0,-1:a", "p0,0,0,999:a"]
    + ["p0,0,0,-99:" + "a" * 200, "p0,0,0,-8:r1;", "p0,0,0,-10:a", "p0,0,0,-11:a", "p0,0,0,-12:aaaaaaaaaaaa"]
    + ["p-1,0,0,1:a", "p0,-1,0,1:a", "p0,0,-1,1:a", "p0,0,8,1:a", "p0,0,10,1:a", "p0,0,100,1:a"]
    + ["p0,0,0:a", "p0,0,1:a", "p0,0,0,0,1:a", "p0,0,0,1,:a", "p,0,0,1:a", "p0,0,0,1;a", "p0,0,0,1a", "p:a", "p1:a"]
    + ["p0,0,0,1:%", "p0,0,0,1:\n", "p0,0,0,3:a%b", "p0,0,0,1:\xe9", "p0,0,0,1:\x7f"]
)


def some_part(chance):
    word = chance.choice(["roll", "put", "put", "put", "cursor"])
    places = chance.choice([0, 1, 9, 10, 99, 100, 999]), chance.randint(0, 999)
    if word == "roll":
        return word, chance.choice([by for by in range(-10, 11) if by])
    if word == "cursor":
        return word, *places
    text = "".join(chance.choice(SIGNS) for at in range(chance.randint(1, 30)))
    return word, *places, chance.randint(0, 7), text


class TestWrittenChange(unittest.TestCase):
    def test_each_part(self):
        for part, text in WRITTEN:
            self.assertEqual(written_change([part]), text)

    def test_no_parts(self):
        self.assertEqual(written_change([]), "")

    def test_part_by_part(self):
        self.assertEqual(written_change([part for part, text in WRITTEN]), "".join(text for part, text in WRITTEN))
        change = [("cursor", 1, 2), ("put", 3, 4, 5, "ab"), ("put", 3, 4, 5, "ab"), ("roll", -6), ("roll", 6)]
        self.assertEqual(written_change(change), "c1,2;p3,4,5,2:abp3,4,5,2:abr-6;r6;")

    def test_numbers_with_too_many_figures(self):
        for part in TOO_LONG:
            refused(self, BadChange, written_change, [part])
            refused(self, BadChange, written_change, [("roll", 1), part])
            refused(self, BadChange, written_change, [part, ("roll", 1)])

    def test_what_is_no_change(self):
        for part in BAD_PARTS:
            refused(self, BadChange, written_change, [part])
            refused(self, BadChange, written_change, [("roll", 1), part])
        for thing in NO_LISTS:
            refused(self, BadChange, written_change, thing)

    def test_the_change_is_as_it_was(self):
        change = [part for part, text in WRITTEN]
        before = copy.deepcopy(change)
        written_change(change)
        self.assertEqual(change, before)


class TestReadChange(unittest.TestCase):
    def test_each_part(self):
        for part, text in WRITTEN:
            self.assertEqual(read_change(text), [part])

    def test_no_text(self):
        self.assertEqual(read_change(""), [])

    def test_kinds(self):
        for part, text in WRITTEN:
            change = read_change(text)
            self.assertIs(type(change), list)
            self.assertIs(type(change[0]), tuple)
            self.assertEqual([type(thing) for thing in change[0]], [type(thing) for thing in part])

    def test_part_by_part(self):
        self.assertEqual(read_change("".join(text for part, text in WRITTEN)), [part for part, text in WRITTEN])

    def test_each_number(self):
        for number in range(1000):
            self.assertEqual(read_change(f"c{number},{999 - number};"), [("cursor", number, 999 - number)])
        for by in range(-10, 11):
            if by != 0:
                self.assertEqual(read_change(f"r{by};"), [("roll", by)])
        for ink in range(8):
            self.assertEqual(read_change(f"p0,0,{ink},1:a"), [("put", 0, 0, ink, "a")])

    def test_what_is_written_is_read_again_and_the_other_way(self):
        chance = random.Random(51)
        for turn in range(200):
            change = [some_part(chance) for at in range(chance.randint(0, 8))]
            text = written_change(change)
            self.assertEqual(read_change(text), change)
            self.assertEqual(written_change(read_change(text)), text)

    def test_changes_from_face_to_face(self):
        chance = random.Random(52)
        cells = [(" ", 0), ("a", 0), (";", 1), (":", 1), ("r", 7)]
        for turn in range(30):
            one = random_face(chance, chance.randint(1, 10), chance.randint(1, 20), cells)
            change = change_of(one, altered(chance, one, cells))
            self.assertEqual(read_change(written_change(change)), change)

    def test_other_texts(self):
        for text in OTHER_TEXTS:
            refused(self, BadChange, read_change, text)
            refused(self, BadChange, read_change, "r1;" + text)
            refused(self, BadChange, read_change, "p0,0,0,2:ab" + text)

    def test_signs_that_are_none(self):
        for text in NO_SIGNS:
            if text not in ("", "ab", "  "):
                refused(self, BadChange, read_change, text)
                refused(self, BadChange, read_change, f"p0,0,0,{len(text)}:{text}")
                refused(self, BadChange, read_change, f"r1{text};")

    def test_the_last_sign_gone(self):
        for part, text in WRITTEN:
            refused(self, BadChange, read_change, text[:-1])
            refused(self, BadChange, read_change, "c1,2;" + text[:-1])

    def test_something_behind_the_end(self):
        for part, text in WRITTEN:
            for more in [" ", ";", "\n", "a", "0", ":", "r", "c", "p", "%"]:
                refused(self, BadChange, read_change, text + more)

    def test_whatever_is_read_is_written_again_as_it_was(self):
        chance = random.Random(53)
        read = 0
        for turn in range(4000):
            text = list(written_change([some_part(chance) for at in range(2)]))
            for at in range(chance.randint(0, 2)):
                place = chance.randrange(len(text))
                text[place:place + chance.randint(0, 1)] = chance.choice("01-,;:arp")
            text = "".join(text)
            try:
                change = read_change(text)
            except BadChange:
                continue
            read += 1
            self.assertEqual(written_change(change), text)
        self.assertGreater(read, 1000)

    def test_other_kinds(self):
        for thing in NO_TEXTS:
            refused(self, BadChange, read_change, thing)

    def test_told_lists_are_new_ones(self):
        first = read_change("r1;")
        first.append("more")
        self.assertEqual(read_change("r1;"), [("roll", 1)])
        empty = read_change("")
        empty.append("more")
        self.assertEqual(read_change(""), [])


if __name__ == "__main__":
    unittest.main()
