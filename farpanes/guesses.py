"""Guesses: what keys will show, ahead of the face that shows it."""

from farpanes.changes import with_put
from farpanes.errors import BadPacket
from farpanes.faces import need_face, need_face_like, size_of
from farpanes.kinds import is_sign, is_within


def is_wrong(guess, face):
    """Tell whether the face has another sign in the guess's place."""
    many, row, column, sign = guess
    return face[0][row][column][0] != sign


def with_guess(rows, guess):
    """The rows with the sign of a guess in its place, with the ink that is there."""
    many, row, column, sign = guess
    return with_put(rows, row, column, ((sign, rows[row][column][1]),))


class Guesser:
    """The face that is there, and guesses: each as how many keys were pressed with it, row, column and sign."""

    def __init__(self, face):
        need_face(face)
        self.there = face
        self.guesses = []
        self.many = 0
        self.seen = 0
        self.is_sure = True

    def press(self, key):
        """Count a key, and tell whether it is guessed what it will show."""
        self.many += 1
        row, column = self.cursor()
        width = size_of(self.there)[1]
        self.is_sure = self.is_sure and is_sign(key) and column < width - 1
        if self.is_sure:
            self.guesses.append((self.many, row, column, key))
        return self.is_sure

    def came(self, face, seen):
        """Take a face that has seen so many keys, and tell whether a guess was wrong."""
        need_face_like(face, self.there)
        if not is_within(seen, self.seen, self.many):
            raise BadPacket("so many keys can't be seen")
        was_wrong = any([is_wrong(guess, face) for guess in self.guesses if guess[0] <= seen])
        later = [guess for guess in self.guesses if guess[0] > seen]
        self.guesses = [] if was_wrong else later
        self.is_sure = seen == self.many or (self.is_sure and not was_wrong)
        self.there = face
        self.seen = seen
        return was_wrong

    def shown(self):
        """The face that came last, with the guesses and the cursor behind them."""
        rows = self.there[0]
        for guess in self.guesses:
            rows = with_guess(rows, guess)
        row, column = self.cursor()
        return rows, row, column

    def cursor(self):
        """Where the cursor is shown: behind the last guess, else as in the face."""
        if not self.guesses:
            return self.there[1:]
        many, row, column, sign = self.guesses[-1]
        return row, column + 1
