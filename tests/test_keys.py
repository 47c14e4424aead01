"""[71], and [1] to [3] of it: the typer and the board."""

import random
import unittest

from farpanes.errors import BadPacket
from farpanes.keys import Board, Typer
from tests.common import NO_NUMBERS, NO_SIGNS, NO_TEXTS, NO_TUPLES, SIGNS, refused
from tests.roads import ROADS, Road

HUGE = 10 ** 5000

# Texts with something in them that is neither a sign nor a line end.
NO_KEYS = NO_TEXTS + [sign for sign in NO_SIGNS if sign not in ("\n", "", "ab", "  ", "a\n")]
NO_KEYS += ["a%b", "\n%", "%\n", "ab\x00", "a\tb", "\r", "a\r\n", "\x0b", "\x0c", "\x85", "\u2029", "abc\xe9"]


def typer_with(keys, heard=0):
    typer = Typer()
    typer.press(keys)
    typer.heard(heard)
    return typer


class TestTyper(unittest.TestCase):
    def test_at_first(self):
        typer = Typer()
        self.assertEqual(typer.pressed(), 0)
        self.assertIs(type(typer.pressed()), int)
        self.assertIsNone(typer.tick())

    def test_the_empty_text(self):
        typer = Typer()
        self.assertIsNone(typer.press(""))
        self.assertEqual(typer.pressed(), 0)
        self.assertIsNone(typer.tick())
        typer.press("ab")
        typer.press("")
        self.assertEqual(typer.pressed(), 2)
        self.assertEqual(typer.tick(), (0, "ab"))

    def test_one_key(self):
        typer = Typer()
        self.assertIsNone(typer.press("a"))
        packet = typer.tick()
        self.assertEqual(packet, (0, "a"))
        self.assertIs(type(packet), tuple)
        self.assertIs(type(packet[0]), int)
        self.assertEqual(typer.tick(), (0, "a"))

    def test_keys_in_pieces(self):
        typer = Typer()
        for piece in ("a", "bc", "", "\n", "d e"):
            typer.press(piece)
        self.assertEqual(typer.pressed(), 7)
        self.assertEqual(typer.tick(), (0, "abc\nd e"))

    def test_line_ends(self):
        for keys in ("\n", "\n\n", "a\n", "\na", "a\nb\n\nc"):
            typer = typer_with(keys)
            self.assertEqual(typer.pressed(), len(keys))
            self.assertEqual(typer.tick(), (0, keys))

    def test_each_sign_is_a_key(self):
        for sign in SIGNS:
            self.assertEqual(typer_with(sign).tick(), (0, sign))

    def test_ten_at_most(self):
        keys = "abcdefghijklmnopqrstuvwxyz"
        for many in range(1, 27):
            typer = typer_with(keys[:many])
            self.assertEqual(typer.pressed(), many)
            self.assertEqual(typer.tick(), (0, keys[:min(many, 10)]))

    def test_what_is_sent_behind_each_number_heard(self):
        keys = "abcdefghij\nlmnopqrstuv"
        for heard in range(len(keys) + 1):
            typer = Typer()
            typer.press(keys)
            self.assertIsNone(typer.heard(heard))
            wanted = (heard, keys[heard:heard + 10]) if heard < len(keys) else None
            self.assertEqual(typer.tick(), wanted)
            self.assertEqual(typer.pressed(), len(keys))

    def test_more_keys_behind_all_that_are_there(self):
        typer = typer_with("abc", 3)
        self.assertIsNone(typer.tick())
        typer.press("")
        self.assertIsNone(typer.tick())
        typer.press("de")
        self.assertEqual(typer.tick(), (3, "de"))
        self.assertEqual(typer.pressed(), 5)

    def test_heard_the_same_or_less(self):
        typer = typer_with("abcdef", 4)
        for heard in (4, 3, 0, 1, 4):
            typer.heard(heard)
            self.assertEqual(typer.tick(), (4, "ef"))
        typer.heard(6)
        for heard in range(7):
            typer.heard(heard)
            self.assertIsNone(typer.tick())

    def test_heard_what_is_none(self):
        typer = typer_with("abcdef", 2)
        for thing in NO_NUMBERS + [-1, -2, 7, 8, HUGE, -HUGE]:
            refused(self, BadPacket, typer.heard, thing)
        self.assertEqual(typer.tick(), (2, "cdef"))
        self.assertEqual(typer.pressed(), 6)

    def test_heard_at_first(self):
        typer = Typer()
        self.assertIsNone(typer.heard(0))
        for thing in NO_NUMBERS + [-1, 1]:
            refused(self, BadPacket, typer.heard, thing)
        self.assertIsNone(typer.tick())

    def test_pressed_what_are_no_keys(self):
        typer = typer_with("abc", 1)
        for thing in NO_KEYS:
            refused(self, BadPacket, typer.press, thing)
        self.assertEqual(typer.pressed(), 3)
        self.assertEqual(typer.tick(), (1, "bc"))

    def test_typers_have_nothing_in_common(self):
        one, other = Typer(), Typer()
        one.press("abc")
        self.assertEqual(other.pressed(), 0)
        self.assertIsNone(other.tick())


def board_with(keys):
    board = Board()
    for at, key in enumerate(keys):
        board.took((at, key))
    return board


class TestBoard(unittest.TestCase):
    def check(self, told, new, many):
        self.assertIs(type(told), tuple)
        self.assertEqual(told, (new, many))
        self.assertIs(type(told[0]), str)
        self.assertIs(type(told[1]), int)

    def test_packets_in_turn(self):
        board = Board()
        self.check(board.took((0, "abc")), "abc", 3)
        self.check(board.took((3, "d\n")), "d\n", 5)
        self.check(board.took((5, "0123456789")), "0123456789", 15)

    def test_one_key_and_ten(self):
        for many in range(1, 11):
            self.check(Board().took((0, "abcdefghij"[:many])), "abcdefghij"[:many], many)

    def test_each_key(self):
        for sign in SIGNS + "\n":
            self.check(Board().took((0, sign)), sign, 1)

    def test_a_packet_twice(self):
        board = Board()
        self.check(board.took((0, "abc")), "abc", 3)
        self.check(board.took((0, "abc")), "", 3)

    def test_where_a_packet_begins(self):
        keys = "abcdefghijklmnopqrstuvwxyz"
        for came in range(8):
            for start in range(12):
                for many in range(1, 11):
                    board = board_with(keys[:came])
                    packet = (start, keys[start:start + many])
                    new = keys[came:start + many] if start <= came else ""
                    self.check(board.took(packet), new, came + len(new))
                    # What was taken is told once: the next key follows right behind.
                    behind = came + len(new)
                    self.check(board.took((behind, keys[behind])), keys[behind], behind + 1)

    def test_far_ahead_and_far_behind(self):
        board = Board()
        self.check(board.took((HUGE, "abc")), "", 0)
        self.check(board.took((1, "abc")), "", 0)
        for at in range(50):
            board.took((at, "x"))
        self.check(board.took((0, "abcdefghij")), "", 50)
        self.check(board.took((39, "abcdefghij")), "", 50)
        self.check(board.took((40, "abcdefghij")), "", 50)
        self.check(board.took((41, "abcdefghij")), "j", 51)

    def test_what_is_no_packet(self):
        wrong = NO_TUPLES + [(), (0,), ("a",), (0, "a", 0), (0, "a", "b"), [0, "a"], ("a", 0), ((0, "a"),), (0, ("a",))]
        wrong += [(thing, "a") for thing in NO_NUMBERS + [-1, -HUGE]]
        wrong += [(0, thing) for thing in NO_KEYS + ["", "x" * 11, "x" * 1000, "\n" * 11, ["a"]]]
        wrong += [(3, ""), (3, "x" * 11), (9, ""), (9, "x" * 11), (9, "%"), (0, "abcdefghijk"), (True, "d"), (False, "a")]
        for came in ("", "abc"):
            board = board_with(came)
            for thing in wrong:
                refused(self, BadPacket, board.took, thing)
            self.check(board.took((len(came), "d")), "d", len(came) + 1)

    def test_boards_have_nothing_in_common(self):
        one, other = Board(), Board()
        one.took((0, "abc"))
        self.check(other.took((0, "x")), "x", 1)


class TestKeysOverARoad(unittest.TestCase):
    def test_each_key_comes_once_in_turn(self):
        for at, ways in enumerate(ROADS):
            for seed in range(10):
                self.travel(random.Random(100 * at + seed), ways)

    def travel(self, chance, ways):
        typer, board = Typer(), Board()
        there, back = Road(chance, **ways), Road(chance, **ways)
        pressed = came = ""
        for turn in range(400):
            if turn < 100 and chance.random() < 0.5:
                piece = "".join(chance.choice("abc \n") for key in range(chance.randrange(15)))
                typer.press(piece)
                pressed += piece
            if turn == 100:
                there.lost = back.lost = 0.3
                there.delayed = back.delayed = 0.4
            there.send(typer.tick())
            for packet in there.come():
                new, many = board.took(packet)
                came += new
                self.assertEqual(many, len(came))
                self.assertTrue(pressed.startswith(came))
                back.send(many)
            for many in back.come():
                typer.heard(many)
        self.assertEqual(came, pressed)
        self.assertEqual(typer.pressed(), len(pressed))
        self.assertIsNone(typer.tick())


if __name__ == "__main__":
    unittest.main()
