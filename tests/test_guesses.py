"""[81] and [82], and [1] to [3] of them: the guesser."""

import random
import unittest

from farpanes.errors import BadFace, BadPacket
from farpanes.faces import blank, need_face, shown
from farpanes.guesses import Guesser
from farpanes.pens import Pen
from tests.common import NO_FACES, NO_NUMBERS, SIGNS, face_of, refused

HUGE = 10 ** 5000
WIDE = blank(2, 5)


def guesser_with(face, keys):
    guesser = Guesser(face)
    for key in keys:
        guesser.press(key)
    return guesser


class TestPress(unittest.TestCase):
    def check(self, guesser, texts, row, column):
        face = guesser.shown()
        need_face(face)
        self.assertEqual((shown(face), face[1], face[2]), (texts, row, column))

    def test_at_first(self):
        face = face_of("abc", "def", row=1, column=2, ink=3)
        self.assertEqual(Guesser(face).shown(), face)

    def test_signs_till_the_last_column(self):
        guesser = Guesser(WIDE)
        for at, key in enumerate("abcd"):
            self.assertIs(guesser.press(key), True)
            self.check(guesser, ["abcd "[:at + 1].ljust(5), "     "], 0, at + 1)
        self.assertIs(guesser.press("e"), False)
        self.check(guesser, ["abcd ", "     "], 0, 4)
        self.assertIs(guesser.press("f"), False)
        self.check(guesser, ["abcd ", "     "], 0, 4)

    def test_from_where_the_cursor_is(self):
        guesser = Guesser((WIDE[0], 1, 2))
        self.assertIs(guesser.press("x"), True)
        self.check(guesser, ["     ", "  x  "], 1, 3)
        self.assertIs(guesser.press("y"), True)
        self.check(guesser, ["     ", "  xy "], 1, 4)
        self.assertIs(guesser.press("z"), False)

    def test_in_the_last_column(self):
        guesser = Guesser((WIDE[0], 1, 4))
        self.assertIs(guesser.press("a"), False)
        self.assertEqual(guesser.shown(), (WIDE[0], 1, 4))
        guesser = Guesser(blank(3, 1))
        self.assertIs(guesser.press("a"), False)
        self.assertEqual(guesser.shown(), blank(3, 1))

    def test_one_ahead_of_the_last_column(self):
        guesser = Guesser((WIDE[0], 1, 3))
        self.assertIs(guesser.press("a"), True)
        self.check(guesser, ["     ", "   a "], 1, 4)

    def test_a_line_end(self):
        guesser = Guesser(WIDE)
        self.assertIs(guesser.press("\n"), False)
        self.assertEqual(guesser.shown(), WIDE)
        self.assertIs(guesser.press("a"), False)
        self.assertEqual(guesser.shown(), WIDE)

    def test_a_line_end_behind_guesses_leaves_them(self):
        guesser = guesser_with(WIDE, "ab")
        self.assertIs(guesser.press("\n"), False)
        self.check(guesser, ["ab   ", "     "], 0, 2)
        self.assertIs(guesser.press("c"), False)
        self.check(guesser, ["ab   ", "     "], 0, 2)

    def test_each_sign_is_guessed(self):
        for sign in SIGNS:
            guesser = Guesser(WIDE)
            self.assertIs(guesser.press(sign), True)
            self.check(guesser, [sign + "    ", "     "], 0, 1)

    def test_signs_that_stand_there_already(self):
        guesser = Guesser(face_of("abc", "def", ink=2))
        self.assertIs(guesser.press("a"), True)
        self.assertEqual(guesser.shown(), face_of("abc", "def", column=1, ink=2))
        self.assertIs(guesser.press("x"), True)
        self.check(guesser, ["axc", "def"], 0, 2)

    def test_inks_are_as_they_are(self):
        face = (((("a", 1), ("b", 2), (" ", 3), ("d", 4)),), 0, 0)
        guesser = guesser_with(face, "xyz")
        self.assertEqual(guesser.shown(), (((("x", 1), ("y", 2), ("z", 3), ("d", 4)),), 0, 3))
        guesser = guesser_with(face, " ")
        self.assertEqual(guesser.shown()[0][0][0], (" ", 1))

    def test_no_face(self):
        for thing in NO_FACES:
            refused(self, BadFace, Guesser, thing)


class TestCame(unittest.TestCase):
    def check(self, guesser, texts, row, column):
        face = guesser.shown()
        need_face(face)
        self.assertEqual((shown(face), face[1], face[2]), (texts, row, column))

    def test_no_keys_pressed(self):
        guesser = Guesser(WIDE)
        face = face_of("hello", "you  ", row=1, column=3, ink=4)
        self.assertIs(guesser.came(face, 0), False)
        self.assertEqual(guesser.shown(), face)
        self.assertIs(guesser.press("x"), True)
        self.check(guesser, ["hello", "youx "], 1, 4)

    def test_all_keys_shown(self):
        guesser = guesser_with(WIDE, "abc")
        face = face_of("abc  ", "     ", column=3, ink=5)
        self.assertIs(guesser.came(face, 3), False)
        self.assertEqual(guesser.shown(), face)
        self.assertIs(guesser.press("d"), True)
        self.check(guesser, ["abcd ", "     "], 0, 4)

    def test_some_keys_shown(self):
        for seen in range(4):
            guesser = guesser_with(WIDE, "abc")
            face = face_of("abc"[:seen].ljust(5), "     ", column=seen)
            self.assertIs(guesser.came(face, seen), False)
            self.check(guesser, ["abc  ", "     "], 0, 3)
            self.assertIs(guesser.press("d"), True)
            self.check(guesser, ["abcd ", "     "], 0, 4)

    def test_only_guesses_of_keys_seen_are_over(self):
        guesser = guesser_with(WIDE, "abc")
        # The face shows none of b and c, and other signs there: it has not seen them.
        face = face_of("aXX  ", "     ", row=1, column=1, ink=6)
        self.assertIs(guesser.came(face, 1), False)
        self.assertEqual(guesser.shown(), (face_of("abc  ", "     ", ink=6)[0], 0, 3))
        self.assertIs(guesser.came(face_of("zXX  ", "     "), 1), False)
        self.check(guesser, ["zbc  ", "     "], 0, 3)

    def test_inks_of_the_face_that_came_last(self):
        guesser = guesser_with(blank(1, 4), "ab")
        face = (((("a", 1), ("-", 2), ("-", 3), ("-", 4)),), 0, 1)
        guesser.came(face, 1)
        self.assertEqual(guesser.shown(), (((("a", 1), ("b", 2), ("-", 3), ("-", 4)),), 0, 2))

    def test_an_unlike_ink_is_not_wrong(self):
        guesser = guesser_with(face_of("     ", ink=1), "ab")
        self.assertIs(guesser.came(face_of("ab   ", column=2, ink=7), 2), False)

    def test_a_wrong_guess(self):
        guesser = guesser_with(WIDE, "abc")
        face = face_of("x    ", "     ", row=1, column=1)
        self.assertIs(guesser.came(face, 1), True)
        self.assertEqual(guesser.shown(), face)
        self.assertIs(guesser.press("d"), False)
        self.assertEqual(guesser.shown(), face)

    def test_a_wrong_guess_behind_a_right_one(self):
        guesser = guesser_with(WIDE, "abcd")
        face = face_of("aX   ", "     ", column=2)
        self.assertIs(guesser.came(face, 2), True)
        self.assertEqual(guesser.shown(), face)
        self.assertIs(guesser.press("d"), False)

    def test_a_wrong_guess_ahead_of_a_right_one(self):
        guesser = guesser_with(WIDE, "abcd")
        face = face_of("Xb   ", "     ", column=2)
        self.assertIs(guesser.came(face, 2), True)
        self.assertEqual(guesser.shown(), face)

    def test_a_sign_that_is_not_shown_at_all(self):
        # A password, say: the keys were seen and nothing came of them.
        guesser = guesser_with(WIDE, "ab")
        self.assertIs(guesser.came(WIDE, 1), True)
        self.assertEqual(guesser.shown(), WIDE)

    def test_a_blank_guessed_where_a_blank_stands(self):
        guesser = guesser_with(WIDE, " ")
        self.check(guesser, ["     ", "     "], 0, 1)
        self.assertIs(guesser.came((WIDE[0], 0, 1), 1), False)

    def test_a_wrong_guess_together_with_all_keys_seen(self):
        guesser = guesser_with(WIDE, "abc")
        face = face_of("abX  ", "     ", row=1, column=1)
        self.assertIs(guesser.came(face, 3), True)
        self.assertEqual(guesser.shown(), face)
        self.assertIs(guesser.press("d"), True)
        self.check(guesser, ["abX  ", " d   "], 1, 2)

    def test_a_wrong_guess_is_told_once(self):
        guesser = guesser_with(WIDE, "abc")
        self.assertIs(guesser.came(WIDE, 1), True)
        self.assertIs(guesser.came(WIDE, 1), False)
        self.assertIs(guesser.came(WIDE, 2), False)
        self.assertIs(guesser.press("d"), False)
        self.assertIs(guesser.came(WIDE, 3), False)
        self.assertIs(guesser.press("e"), False)
        self.assertIs(guesser.came(WIDE, 5), False)
        self.assertIs(guesser.press("f"), True)

    def test_keys_pressed_while_it_is_not_sure(self):
        guesser = guesser_with(WIDE, "ab\ncd")
        self.check(guesser, ["ab   ", "     "], 0, 2)
        self.assertIs(guesser.came(face_of("a    ", "     ", column=1), 1), False)
        self.check(guesser, ["ab   ", "     "], 0, 2)
        self.assertIs(guesser.press("e"), False)
        face = face_of("ab   ", "c    ", row=1, column=1)
        self.assertIs(guesser.came(face, 4), False)
        self.assertEqual(guesser.shown(), face)
        self.assertIs(guesser.press("f"), False)
        face = face_of("ab   ", "cdef ", row=1, column=4)
        self.assertIs(guesser.came(face, 7), False)
        self.assertEqual(guesser.shown(), face)
        self.assertIs(guesser.press("g"), False)

    def test_sure_again_when_all_keys_are_seen(self):
        guesser = guesser_with(WIDE, "\nab")
        face = face_of("     ", "ab   ", row=1, column=2)
        self.assertIs(guesser.came(face, 3), False)
        self.assertIs(guesser.press("c"), True)
        self.check(guesser, ["     ", "abc  "], 1, 3)

    def test_not_sure_while_a_key_is_not_seen(self):
        guesser = guesser_with(WIDE, "\nab")
        for seen in (0, 1, 2):
            self.assertIs(guesser.came(WIDE, seen), False)
            self.assertIs(guesser.press("c"), False)
        self.assertIs(guesser.came(WIDE, 6), False)
        self.assertIs(guesser.press("d"), True)

    def test_not_sure_behind_the_last_column(self):
        guesser = guesser_with(WIDE, "abcde")
        self.assertIs(guesser.came(face_of("abcd ", "     ", column=4), 4), False)
        self.assertEqual(guesser.shown(), face_of("abcd ", "     ", column=4))
        self.assertIs(guesser.came(face_of("abcde", "     ", column=4), 5), False)
        self.assertIs(guesser.press("f"), False)
        self.assertIs(guesser.came(face_of("abcde", "f    ", row=1, column=1), 6), False)
        self.assertIs(guesser.press("g"), True)

    def test_the_cursor_is_the_last_guess_s_whatever_the_face_s_is(self):
        guesser = guesser_with(WIDE, "ab")
        guesser.came(face_of("     ", "     ", row=1, column=4), 0)
        self.check(guesser, ["ab   ", "     "], 0, 2)
        self.assertIs(guesser.press("c"), True)
        self.check(guesser, ["abc  ", "     "], 0, 3)
        face = face_of("abc  ", "     ", row=1, column=4)
        guesser.came(face, 3)
        self.assertEqual(guesser.shown(), face)
        self.assertIs(guesser.press("d"), False)

    def test_no_face_and_other_sizes(self):
        guesser = guesser_with(WIDE, "abc")
        guesser.came(face_of("a    ", "     "), 1)
        before = guesser.shown()
        for thing in NO_FACES + [blank(1, 5), blank(2, 4), blank(2, 6), blank(3, 5), blank(5, 2)]:
            refused(self, BadFace, guesser.came, thing, 1)
            refused(self, BadFace, guesser.came, thing, None)
            refused(self, BadFace, guesser.came, thing, 0)
        self.assertEqual(guesser.shown(), before)
        self.assertIs(guesser.press("d"), True)

    def test_how_many_keys_it_has_seen(self):
        guesser = guesser_with(WIDE, "abcd")
        guesser.came(face_of("ab   ", "     "), 2)
        before = guesser.shown()
        for thing in NO_NUMBERS + [-1, 0, 1, 5, 6, HUGE, -HUGE]:
            refused(self, BadPacket, guesser.came, face_of("xxxxx", "xxxxx"), thing)
            refused(self, BadPacket, guesser.came, WIDE, thing)
        self.assertEqual(guesser.shown(), before)
        self.assertIs(guesser.came(face_of("ab   ", "     "), 2), False)
        self.check(guesser, ["abcd ", "     "], 0, 4)
        self.assertIs(guesser.came(face_of("abcd ", "     ", column=3), 4), False)
        self.assertIs(guesser.press("e"), True)

    def test_refusals_leave_it_as_sure_as_it_was(self):
        guesser = guesser_with(WIDE, "\n")
        refused(self, BadPacket, guesser.came, WIDE, 2)
        refused(self, BadPacket, guesser.came, WIDE, True)
        refused(self, BadFace, guesser.came, blank(2, 4), 1)
        self.assertIs(guesser.press("a"), False)
        self.assertIs(guesser.came(WIDE, 2), False)
        self.assertIs(guesser.press("a"), True)

    def test_before_any_key(self):
        guesser = Guesser(WIDE)
        for thing in NO_NUMBERS + [-1, 1]:
            refused(self, BadPacket, guesser.came, WIDE, thing)
        self.assertIs(guesser.came(WIDE, 0), False)

    def test_faces_handed_in_are_as_they_were(self):
        first, second = face_of("ab", "cd"), face_of("xb", "cd", column=1)
        guesser = Guesser(first)
        guesser.press("x")
        guesser.shown()
        guesser.came(second, 1)
        guesser.press("y")
        guesser.shown()
        self.assertEqual(first, face_of("ab", "cd"))
        self.assertEqual(second, face_of("xb", "cd", column=1))

    def test_guessers_have_nothing_in_common(self):
        one, other = Guesser(WIDE), Guesser(WIDE)
        one.press("a")
        self.assertEqual(other.shown(), WIDE)
        refused(self, BadPacket, other.came, WIDE, 1)


class Model:
    """A guesser, written another way: all keys are kept, with the place that was guessed for each, or None."""

    def __init__(self, face):
        self.faces, self.seen, self.sure, self.keys = [face], 0, True, []

    def live(self):
        return [(key, place) for key, place in self.keys[self.seen:] if place]

    def cursor(self):
        live = self.live()
        return (live[-1][1][0], live[-1][1][1] + 1) if live else self.faces[-1][1:]

    def press(self, key):
        row, column = self.cursor()
        self.sure = self.sure and key != "\n" and column + 1 < len(self.faces[-1][0][0])
        self.keys.append((key, (row, column) if self.sure else None))
        return self.sure

    def came(self, face, seen):
        wrong = any(place and face[0][place[0]][place[1]][0] != key for key, place in self.keys[self.seen:seen])
        if wrong:
            self.keys = [(key, None) for key, place in self.keys]
            self.sure = False
        if seen == len(self.keys):
            self.sure = True
        self.seen = seen
        self.faces.append(face)
        return wrong

    def shown(self):
        rows = [list(cells) for cells in self.faces[-1][0]]
        for key, (row, column) in self.live():
            rows[row][column] = (key, rows[row][column][1])
        return tuple(tuple(cells) for cells in rows), *self.cursor()


class TestByModel(unittest.TestCase):
    def test_many_walks(self):
        for seed in range(200):
            chance = random.Random(seed)
            self.walk(chance, chance.randint(1, 3), chance.choice([1, 2, 5, 8, 20]))

    def walk(self, chance, height, width):
        """The far side echoes keys, but not always: then guesses are wrong."""
        pen = Pen(height, width)
        guesser, model = Guesser(pen.face()), Model(pen.face())
        pressed, done = "", 0
        for step in range(60):
            if chance.random() < 0.6:
                key = chance.choice("abc \n")
                pressed += key
                self.assertIs(guesser.press(key), model.press(key))
            elif done < len(pressed) or chance.random() < 0.3:
                upto = chance.randint(done, len(pressed))
                for key in pressed[done:upto]:
                    self.echo(chance, pen, key)
                done = upto
                self.assertIs(guesser.came(pen.face(), done), model.came(pen.face(), done))
            self.assertEqual(guesser.shown(), model.shown())
            need_face(guesser.shown())
            if done == len(pressed):
                self.assertEqual(guesser.shown(), pen.face())

    def echo(self, chance, pen, key):
        if key == "\n":
            pen.write([("home",), ("line",)])
        elif chance.random() < 0.9:
            pen.write([("ink", chance.randint(0, 7)), ("say", key)])
        elif chance.random() < 0.5:
            pen.write([("say", "*")])


if __name__ == "__main__":
    unittest.main()
