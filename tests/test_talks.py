"""[31] and [32], and [1] to [3] of them: talks."""

import copy
import random
import re
import unittest

from farpanes.errors import BadDeed, BadTalk
from farpanes.pens import Pen
from farpanes.talks import Talk, read_talk, written_talk
from tests.common import NO_SIGNS, NO_TEXTS, SIGNS, refused
from tests.test_pens import BAD_DEEDS, GOOD_DEEDS
from tests.test_pens_by_model import some_deed

NUMBERED = {"g": "go", "i": "ink", "s": "roll", "o": "open", "c": "cut", "m": "more", "l": "less"}
COUNTED = "ocml"

WRITTEN = [
    (("say", "a"), "a"),
    (("say", " "), " "),
    (("say", "~"), "~"),
    (("say", "^"), "^^"),
    (("say", "^^"), "^^^^"),
    (("say", "a^b"), "a^^b"),
    (("say", "^n"), "^^n"),
    (("say", "g1,2;"), "g1,2;"),
    (("say", "x" * 200), "x" * 200),
    (("say", "^" * 200), "^" * 400),
    (("line",), "^n"),
    (("home",), "^h"),
    (("back",), "^b"),
    (("wipe", "row"), "^wr"),
    (("wipe", "rest"), "^wt"),
    (("wipe", "all"), "^wa"),
    (("go", 0, 0), "^g0,0;"),
    (("go", 99, 99), "^g99,99;"),
    (("go", 0, 99), "^g0,99;"),
    (("go", 10, 5), "^g10,5;"),
    (("ink", 0), "^i0;"),
    (("ink", 7), "^i7;"),
    (("roll", -99), "^s-99;"),
    (("roll", -1), "^s-1;"),
    (("roll", 0), "^s0;"),
    (("roll", 99), "^s99;"),
    (("open", 0), "^o0;"),
    (("open", 99), "^o99;"),
    (("cut", 0), "^c0;"),
    (("cut", 99), "^c99;"),
    (("more", 0), "^m0;"),
    (("more", 99), "^m99;"),
    (("less", 0), "^l0;"),
    (("less", 99), "^l99;"),
]

# Texts in which something is neither whole nor to be kept: no talk, whatever may come behind them.
WRONG = (
    ["%", "a%", "\n", "a\n", "^n\n", "\t", "\x7f", "\xe9", "\x00", "\ud800"]
    + ["^x", "^N", "^ ", "^;", "^1", "^a", "^r", "^t", "^d", "^p", "^G", "^-", "^%", "^\n", "^\xe9"]
    + ["^wx", "^w ", "^ww", "^w^", "^wR", "^w;", "^wn", "^w%", "^w\n"]
    + [f"^{letter};" for letter in NUMBERED]
    + [f"^{letter}{wrong};" for letter in NUMBERED for wrong in ("-0", "+1", " 1", "1 ", "01", "00", "-01", "--1", "-")]
    + [f"^{letter}{wrong};" for letter in NUMBERED for wrong in ("x", "1x", "0x1", "1_0", "\u0663", "\xb2", "1.")]
    + [f"^{letter}{wrong};" for letter in NUMBERED for wrong in (",", "1,", ",1", "1,2,3", "1,,2", "1:2")]
    + [f"^{letter}{wrong};" for letter in "is" + COUNTED for wrong in ("1,2", "0,0")]
    + [f"^{letter}{wrong};" for letter in "i" + COUNTED for wrong in ("100", "-1", "-99", "999")]
    + [f"^g{wrong};" for wrong in ("1", "99", "-1,0", "0,-1", "100,0", "0,100", "01,0", "0,01", "-0,0", "0,-0")]
    + [f"^g{wrong};" for wrong in ("+1,0", "0,+1", "1, 2", "1 ,2", " 1,2", "1,2 ", "1;2", "1\n,2")]
    + ["^i8;", "^i10;", "^s100;", "^s-100;", "^s-0;", "^s+0;"]
    + ["^g99,99,", "^g99,999", "^i123456", "^s-99999", "^oooooooo", "^c       ", "^m^n^n^n", "^l1234567890"]
    + ["^g1,2" + " " * 300 + ";", "^i" + "1" * 5000 + ";", "^s-" + "0" * 5000 + ";"]
)

# What is kept, and what makes it whole.
KEPT = (
    [("^", "^", ("say", "^")), ("^", "n", ("line",)), ("^", "h", ("home",)), ("^", "b", ("back",))]
    + [("^", "wr", ("wipe", "row")), ("^", "g1,2;", ("go", 1, 2)), ("^", "i7;", ("ink", 7))]
    + [("^w", "r", ("wipe", "row")), ("^w", "t", ("wipe", "rest")), ("^w", "a", ("wipe", "all"))]
    + [("^g99,99;"[:at], "^g99,99;"[at:], ("go", 99, 99)) for at in range(1, 8)]
    + [("^s-99;"[:at], "^s-99;"[at:], ("roll", -99)) for at in range(1, 6)]
    + [(f"^{letter}", "5;", (NUMBERED[letter], 5)) for letter in "is" + COUNTED]
    + [(f"^{letter}5", ";", (NUMBERED[letter], 5)) for letter in "is" + COUNTED]
)


class TestWrittenTalk(unittest.TestCase):
    def test_each_kind_of_deed(self):
        for deed, text in WRITTEN:
            self.assertEqual(written_talk([deed]), text)

    def test_each_number(self):
        for number in range(100):
            for letter, word in NUMBERED.items():
                if word == "go":
                    self.assertEqual(written_talk([("go", number, 99 - number)]), f"^g{number},{99 - number};")
                elif word != "ink" or number < 8:
                    self.assertEqual(written_talk([(word, number)]), f"^{letter}{number};")

    def test_one_behind_the_other(self):
        self.assertEqual(written_talk([deed for deed, text in WRITTEN]), "".join(text for deed, text in WRITTEN))
        self.assertEqual(written_talk([("say", "ab"), ("say", "c"), ("line",), ("line",)]), "abc^n^n")

    def test_no_deeds(self):
        self.assertEqual(written_talk([]), "")

    def test_what_are_no_deeds(self):
        for deed in BAD_DEEDS:
            refused(self, BadDeed, written_talk, [deed])
            refused(self, BadDeed, written_talk, [("line",), deed])
            refused(self, BadDeed, written_talk, [deed, ("line",)])

    def test_what_is_no_list(self):
        for thing in [None, 1, True, "say", "", b"", (), ("say", "a"), (("say", "a"),), {}, {("line",): 1}, {1}]:
            refused(self, BadDeed, written_talk, thing)

    def test_the_list_is_as_it_was(self):
        deeds = list(GOOD_DEEDS)
        before = copy.deepcopy(deeds)
        written_talk(deeds)
        self.assertEqual(deeds, before)


class TestReadTalk(unittest.TestCase):
    def test_each_kind_of_deed(self):
        for deed, text in WRITTEN:
            self.assertEqual(read_talk(text), [deed])

    def test_what_is_written_is_read_again(self):
        for deed in GOOD_DEEDS:
            self.assertEqual(read_talk(written_talk([deed])), [deed])

    def test_each_sign_may_be_said(self):
        for sign in SIGNS:
            self.assertEqual(read_talk(sign * 2 if sign == "^" else sign), [("say", sign)])

    def test_no_text_is_no_deeds(self):
        self.assertEqual(read_talk(""), [])

    def test_kinds(self):
        for deed, text in WRITTEN:
            told = read_talk(text)
            self.assertIs(type(told), list)
            self.assertIs(type(told[0]), tuple)
            self.assertEqual([type(thing) for thing in told[0]], [type(thing) for thing in deed])

    def test_one_behind_the_other(self):
        text = "ab^n^h^b^wr^wt^wac^^d^g1,22;^i3;^s-4;^o5;^c6;^m7;^l8;e"
        deeds = [("say", "ab"), ("line",), ("home",), ("back",), ("wipe", "row"), ("wipe", "rest"), ("wipe", "all")]
        deeds += [("say", "c^d"), ("go", 1, 22), ("ink", 3), ("roll", -4), ("open", 5), ("cut", 6), ("more", 7)]
        self.assertEqual(read_talk(text), deeds + [("less", 8), ("say", "e")])

    def test_signs_side_by_side_are_one_deed(self):
        self.assertEqual(read_talk(written_talk([("say", "a"), ("say", "^"), ("say", "bc")])), [("say", "a^bc")])
        self.assertEqual(read_talk("a^nb"), [("say", "a"), ("line",), ("say", "b")])
        self.assertEqual(read_talk("^n^n"), [("line",), ("line",)])

    def test_marks_twice_are_said(self):
        self.assertEqual(read_talk("^^^^"), [("say", "^^")])
        self.assertEqual(read_talk("^^n"), [("say", "^n")])
        self.assertEqual(read_talk("^^^n"), [("say", "^"), ("line",)])
        self.assertEqual(read_talk("^n^^"), [("line",), ("say", "^")])
        self.assertEqual(read_talk("^^g1,2;"), [("say", "^g1,2;")])

    def test_two_hundred_at_most(self):
        signs = (SIGNS.replace("^", "") * 8)[:700]
        for many, sizes in [
            (199, [199]),
            (200, [200]),
            (201, [200, 1]),
            (400, [200, 200]),
            (401, [200, 200, 1]),
            (700, [200, 200, 200, 100]),
        ]:
            told = read_talk(signs[:many])
            self.assertEqual([len(deed[1]) for deed in told], sizes)
            self.assertEqual("".join(deed[1] for deed in told), signs[:many])
            self.assertEqual({deed[0] for deed in told}, {"say"})

    def test_a_mark_said_is_one_sign_of_the_two_hundred(self):
        self.assertEqual(read_talk("^" * 400), [("say", "^" * 200)])
        self.assertEqual(read_talk("^" * 402), [("say", "^" * 200), ("say", "^")])
        self.assertEqual(read_talk("a" * 199 + "^^b"), [("say", "a" * 199 + "^"), ("say", "b")])
        self.assertEqual(read_talk("a" * 200 + "^^b"), [("say", "a" * 200), ("say", "^b")])

    def test_a_deed_between_begins_the_count_anew(self):
        told = read_talk("a" * 150 + "^n" + "b" * 150)
        self.assertEqual(told, [("say", "a" * 150), ("line",), ("say", "b" * 150)])

    def test_what_is_no_talk(self):
        for text in WRONG:
            refused(self, BadTalk, read_talk, text)
            refused(self, BadTalk, read_talk, "ab^n" + text)
            refused(self, BadTalk, read_talk, text + "ab^n")
            refused(self, BadTalk, read_talk, text + ";")

    def test_signs_that_are_none(self):
        for text in NO_SIGNS:
            if text not in ("", "ab", "  "):
                refused(self, BadTalk, read_talk, text)
                refused(self, BadTalk, read_talk, "^" + text)
                refused(self, BadTalk, read_talk, f"^g1{text},2;")

    def test_a_talk_that_ends_within_a_deed(self):
        for kept, rest, deed in KEPT:
            refused(self, BadTalk, read_talk, kept)
            refused(self, BadTalk, read_talk, "a^n" + kept)
            self.assertEqual(read_talk(kept + rest), [deed])

    def test_other_kinds(self):
        for thing in NO_TEXTS:
            refused(self, BadTalk, read_talk, thing)

    def test_told_lists_are_new_ones(self):
        first = read_talk("ab^n")
        first.append("more")
        first[0] = None
        self.assertEqual(read_talk("ab^n"), [("say", "ab"), ("line",)])

    def test_it_does_on_a_pen_what_the_deeds_do(self):
        chance = random.Random(31)
        for turn in range(60):
            deeds = [some_deed(chance, 4, 6) for step in range(30)]
            one, other = Pen(4, 6), Pen(4, 6)
            one.write(deeds)
            other.write(read_talk(written_talk(deeds)))
            self.assertEqual(one.face(), other.face())

    def test_what_is_read_is_written_again(self):
        chance = random.Random(32)
        for turn in range(60):
            text = written_talk([some_deed(chance, 4, 6) for step in range(30)])
            self.assertEqual(written_talk(read_talk(text)), text)


WHOLE = re.compile(r"\^[\^nhb]|\^w[rta]|\^[gisocml][-0-9,]*;|[^\^]")


def whole_parts(text):
    """The parts of a good talk that are whole in a text that may be cut anywhere, found another way."""
    found, at = [], 0
    while match := WHOLE.match(text, at):
        found.append(match.group())
        at = match.end()
    return found


def fed(pieces):
    """What a new talk tells of each piece."""
    talk = Talk()
    return [talk.feed(piece) for piece in pieces]


def random_pieces(chance, text):
    """The text cut anywhere, here and there with nothing between two cuts."""
    cuts = sorted(chance.randint(0, len(text)) for at in range(chance.randint(0, 12)))
    return [text[first:last] for first, last in zip([0] + cuts, cuts + [len(text)])]


class TestFeed(unittest.TestCase):
    TEXT = "ab^n^^c^h^wr^b^wt^g12,3;d^wa^i3;^s-42;^^^^^o5;^c6;e^m77;^l8;^g99,99;f^s0;"

    def check(self, pieces):
        """Each piece is told as those parts that are whole with it and were not ahead of it."""
        talk = Talk()
        come, told = "", 0
        for piece in pieces:
            come += piece
            parts = whole_parts(come)
            deeds = talk.feed(piece)
            self.assertIs(type(deeds), list)
            self.assertEqual(deeds, read_talk("".join(parts[told:])), pieces)
            told = len(parts)

    def test_all_at_once(self):
        self.assertEqual(fed([self.TEXT]), [read_talk(self.TEXT)])

    def test_sign_by_sign(self):
        self.check(list(self.TEXT))

    def test_cut_once_anywhere(self):
        for at in range(len(self.TEXT) + 1):
            self.check([self.TEXT[:at], self.TEXT[at:]])

    def test_cut_twice_anywhere(self):
        for first in range(len(self.TEXT) + 1):
            for last in range(first, len(self.TEXT) + 1):
                self.check([self.TEXT[:first], self.TEXT[first:last], self.TEXT[last:]])

    def test_pieces_of_one_length(self):
        for many in range(1, 12):
            self.check([self.TEXT[at:at + many] for at in range(0, len(self.TEXT), many)])

    def test_empty_pieces_between(self):
        self.check([piece for sign in self.TEXT for piece in ("", sign, "")])
        self.assertEqual(fed(["", "", ""]), [[], [], []])

    def test_each_time_what_is_whole_by_then(self):
        self.assertEqual(fed(["a", "b^", "", "^c^n", "^w", "r^g", "1", ",2", ";d"]), [
            [("say", "a")],
            [("say", "b")],
            [],
            [("say", "^c"), ("line",)],
            [],
            [("wipe", "row")],
            [],
            [],
            [("go", 1, 2), ("say", "d")],
        ])

    def test_what_was_said_is_told_at_once(self):
        self.assertEqual(fed(["a", "b", "cd"]), [[("say", "a")], [("say", "b")], [("say", "cd")]])

    def test_two_hundred_at_most_of_each_piece(self):
        self.assertEqual(fed(["a" * 201]), [[("say", "a" * 200), ("say", "a")]])
        self.assertEqual(fed(["a" * 150, "a" * 150]), [[("say", "a" * 150)], [("say", "a" * 150)]])
        self.assertEqual(fed(["a" * 10 + "^", "^" + "b" * 200]), [
            [("say", "a" * 10)],
            [("say", "^" + "b" * 199), ("say", "b")],
        ])

    def test_on_a_pen_it_is_the_same_however_it_is_cut(self):
        chance = random.Random(33)
        for turn in range(100):
            height, width = chance.choice([(1, 1), (2, 3), (4, 6), (10, 20)])
            deeds = [some_deed(chance, height, width) for step in range(25)]
            deeds += [("say", "^^a^"), ("go", 0, 0), ("say", "z")]
            text = written_talk(deeds)
            one = Pen(height, width)
            one.write(deeds)
            for pieces in [list(text), random_pieces(chance, text), random_pieces(chance, text)]:
                self.check(pieces)
                other = Pen(height, width)
                for told in fed(pieces):
                    other.write(told)
                self.assertEqual(other.face(), one.face())

    def test_what_is_kept(self):
        for kept, rest, deed in KEPT:
            self.assertEqual(fed([kept, rest]), [[], [deed]])
            self.assertEqual(fed(["ab^n" + kept, rest + "c"])[0], [("say", "ab"), ("line",)])
            self.assertEqual(fed([kept, "", "", rest]), [[], [], [], [deed]])
            self.assertEqual(fed(list(kept) + [rest]), [[]] * len(kept) + [[deed]])

    def test_seven_signs_are_kept_whatever_they_are(self):
        for letter in NUMBERED:
            for rest in ("     ", "abcde", "00000", ",,,,,", "^n^^n", "12345", "-----", "9,9,9"):
                for many in range(6):
                    self.assertEqual(fed([f"^{letter}" + rest[:many]]), [[]])
                    talk = Talk()
                    self.assertEqual(talk.feed(f"a^{letter}" + rest[:many]), [("say", "a")])
                    self.assertEqual(talk.feed(""), [])

    def test_an_eighth_sign_must_be_the_end(self):
        for letter in NUMBERED:
            for eighth in "0 ,^x":
                talk = Talk()
                self.assertEqual(talk.feed(f"^{letter}11,22"), [])
                refused(self, BadTalk, talk.feed, eighth)
                refused(self, BadTalk, Talk().feed, f"^{letter}11,22{eighth}")
                refused(self, BadTalk, Talk().feed, f"^{letter}11,22{eighth};")
        self.assertEqual(fed(["^g11,22", ";"]), [[], [("go", 11, 22)]])

    def test_what_is_neither_whole_nor_kept(self):
        for text in WRONG:
            refused(self, BadTalk, Talk().feed, text)
            refused(self, BadTalk, Talk().feed, "ab^n" + text)
            refused(self, BadTalk, Talk().feed, text + "ab^n")

    def test_wrong_texts_are_refused_however_they_are_cut(self):
        for text in WRONG:
            if len(text) > 30:
                continue
            for pieces in [list(text)] + [[text[:at], text[at:]] for at in range(len(text) + 1)]:
                talk, were_refused = Talk(), 0
                for piece in pieces:
                    try:
                        talk.feed(piece)
                    except BadTalk:
                        were_refused += 1
                self.assertGreater(were_refused, 0, pieces)
                refused(self, BadTalk, talk.feed, "")

    def test_nothing_of_a_refused_piece_is_told_nor_of_further_ones(self):
        for text in ["^x", "%", "^g1;", "^wn", "^i12345678"]:
            talk = Talk()
            self.assertEqual(talk.feed("ab^"), [("say", "ab")])
            refused(self, BadTalk, talk.feed, "n^hcd" + text)
            for piece in ["", "a", "n", "^n", ";", text, ""]:
                refused(self, BadTalk, talk.feed, piece)

    def test_a_kept_part_that_goes_wrong(self):
        marks = [("^", "x"), ("^", "%"), ("^w", "n"), ("^w", "^")]
        for kept, wrong in marks + [("^g1", ";"), ("^g1,", "2,3;"), ("^s-", "0;"), ("^i", "8;")]:
            talk = Talk()
            self.assertEqual(talk.feed("a" + kept), [("say", "a")])
            refused(self, BadTalk, talk.feed, wrong)
            refused(self, BadTalk, talk.feed, "")
            refused(self, BadTalk, talk.feed, "a")

    def test_talks_have_nothing_in_common(self):
        one, other, third = Talk(), Talk(), Talk()
        self.assertEqual(one.feed("^g1"), [])
        refused(self, BadTalk, third.feed, "^x")
        self.assertEqual(other.feed("n"), [("say", "n")])
        self.assertEqual(one.feed(",2;"), [("go", 1, 2)])
        self.assertEqual(Talk().feed("a"), [("say", "a")])

    def test_other_kinds(self):
        for thing in NO_TEXTS:
            refused(self, BadTalk, Talk().feed, thing)

    def test_told_lists_are_new_ones(self):
        talk = Talk()
        first, second = talk.feed("a^g"), talk.feed("")
        self.assertIsNot(first, second)
        first.append("more")
        second.append("more")
        self.assertEqual(talk.feed("1,2;"), [("go", 1, 2)])
        self.assertEqual(talk.feed(""), [])

    def test_it_stands_in_the_class(self):
        self.assertIn("feed", vars(Talk))


if __name__ == "__main__":
    unittest.main()
