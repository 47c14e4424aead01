"""[101], and [1] and [3] of it: layouts as texts."""

import itertools
import random
import unittest

from farpanes.errors import BadLayout
from farpanes.words import read_layout, written_layout
from tests.common import NO_TEXTS, refused
from tests.test_panes import A, B, C, D, GOOD_LAYOUTS, NAMES, bushy, deep, some_layout

WRITTEN = [
    (A, "pane a"),
    (("pane", "abcdefgh"), "pane abcdefgh"),
    (("pane", "pane"), "pane pane"),
    (("pane", "below"), "pane below"),
    (("beside", 1, A, B), "beside 1 pane a pane b"),
    (("below", 20, B, A), "below 20 pane b pane a"),
    (("beside", 3, ("below", 2, A, B), C), "beside 3 below 2 pane a pane b pane c"),
    (("beside", 3, A, ("below", 2, B, C)), "beside 3 pane a below 2 pane b pane c"),
    (("below", 10, ("beside", 9, A, B), ("beside", 8, C, D)), "below 10 beside 9 pane a pane b beside 8 pane c pane d"),
    (("beside", 1, ("pane", "beside"), ("pane", "below")), "beside 1 pane beside pane below"),
]

WRONG = (
    ["", " ", "  ", "a", "pane", "pane ", "pane  a", " pane a", "pane a ", "pane a b", "pane\na", "pane a\n", "pane\ta"]
    + ["Pane a", "panes a", "pane A", "pane a1", "pane 1", "pane abcdefghi", "pane a%", "pane \xe9", "pane a,", "PANE a"]
    + ["beside", "beside ", "beside 1", "beside 1 pane a", "beside 1 pane a pane", "beside 1 pane a pane ", "below 1 a b"]
    + ["beside pane a pane b", "beside 1 pane a pane b pane c", "beside 1 pane a pane b ", " beside 1 pane a pane b"]
    + ["beside  1 pane a pane b", "beside 1  pane a pane b", "beside 1 pane  a pane b", "beside 1 pane a  pane b"]
    + ["beside 1 pane a\npane b", "beside 1 pane a pane b\n", "beside\t1 pane a pane b", "beside 1, pane a pane b"]
    + ["beside 1 pane a pane a", "below 1 pane a beside 1 pane b pane a", "1 beside pane a pane b", "pane a pane b"]
    + ["beside 1 pane a pane b beside", "beside 1 beside 1 pane a pane b", "above 1 pane a pane b", "pane pane a"]
    + ["besides 1 pane a pane b", "Below 1 pane a pane b", "beside1 pane a pane b", "beside 1pane a pane b"]
    + ["(pane a)", "('pane', 'a')", "beside one pane a pane b", "beside 1 (pane a) (pane b)", "beside 1 pane a, pane b"]
    + [f"{way} {number} pane a pane b" for way in ("beside", "below") for number in (
        "0", "21", "22", "99", "100", "999", "1000", "-1", "-0", "+1", "01", "001", "020", "1.", "1.0", "1e1", "0x1", "1_0",
        "\u0663", "\xb2", "", "a", "None", "True", "--1", "-", "1 1", "9" * 5000)]
)


class TestWords(unittest.TestCase):
    def test_how_each_is_written(self):
        for layout, text in WRITTEN:
            self.assertEqual(written_layout(layout), text)
            self.assertEqual(read_layout(text), layout)

    def test_each_number(self):
        for way, many in itertools.product(("beside", "below"), range(1, 21)):
            text = f"{way} {many} pane a pane b"
            self.assertEqual(written_layout((way, many, A, B)), text)
            self.assertEqual(read_layout(text), (way, many, A, B))

    def test_good_layouts_are_read_again(self):
        for layout in GOOD_LAYOUTS:
            self.assertEqual(read_layout(written_layout(layout)), layout)

    def test_many_layouts_are_read_again(self):
        for seed in range(200):
            chance = random.Random(seed)
            layout = some_layout(chance, 10, 20, chance.sample(NAMES, 60))
            text = written_layout(layout)
            self.assertRegex(text, "^[a-z0-9]+( [a-z0-9]+)*$")
            self.assertEqual(read_layout(text), layout)

    def test_the_deepest(self):
        for way, inner in itertools.product(("beside", "below"), (2, 3)):
            layout = deep(12, way, inner)
            self.assertEqual(read_layout(written_layout(layout)), layout)

    def test_too_deep(self):
        for many in (13, 14, 100, 20000):
            chain = "".join(f"beside 1 pane {NAMES[at % 600]} " for at in range(many)) + "pane zz"
            refused(self, BadLayout, read_layout, chain)
            panes = " ".join(f"pane {NAMES[at % 600]}" for at in range(many))
            refused(self, BadLayout, read_layout, "beside 1 " * many + "pane zz " + panes)
            refused(self, BadLayout, read_layout, "below 1 " * many)
            refused(self, BadLayout, read_layout, "below " * many)
        self.assertEqual(read_layout(written_layout(bushy(9))), bushy(9))

    def test_kinds(self):
        layout = read_layout("beside 3 below 2 pane a pane b pane c")
        self.assertIs(type(layout), tuple)
        self.assertIs(type(layout[1]), int)
        self.assertIs(type(layout[2]), tuple)
        self.assertIs(type(layout[2][3]), tuple)
        self.assertIs(type(written_layout(layout)), str)

    def test_other_texts(self):
        for text in WRONG:
            refused(self, BadLayout, read_layout, text)

    def test_cut_and_lengthened_texts(self):
        for layout, text in WRITTEN:
            for at in range(len(text)):
                try:
                    self.assertEqual(written_layout(read_layout(text[:at])), text[:at])
                except BadLayout:
                    pass
                refused(self, BadLayout, read_layout, text[:at] + "%" + text[at:])
                if text[at] == " ":
                    refused(self, BadLayout, read_layout, text[:at] + " " + text[at:])
                    refused(self, BadLayout, read_layout, text[:at])
            refused(self, BadLayout, read_layout, text + " ")
            refused(self, BadLayout, read_layout, text + " pane z")

    def test_texts_of_words_by_chance_are_read_as_they_are_written_or_refused(self):
        words = ["pane", "beside", "below", "1", "2", "a", "b", "c", "01", ""]
        read = 0
        for many in range(1, 6):
            for told in itertools.product(words, repeat=many):
                text = " ".join(told)
                try:
                    layout = read_layout(text)
                except BadLayout:
                    continue
                read += 1
                self.assertEqual(written_layout(layout), text)
        # Only panes have so few words, and of these words six are names.
        self.assertEqual(read, 6)

    def test_what_is_no_text(self):
        for thing in NO_TEXTS + [A, ["pane", "a"], ("pane a",), b"pane a"]:
            refused(self, BadLayout, read_layout, thing)


if __name__ == "__main__":
    unittest.main()
