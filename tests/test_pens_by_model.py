"""[22] and [23] again: pens beside a model of them that has a dict of cells, over many rows of deeds."""

import random
import unittest

from farpanes.faces import need_face
from farpanes.pens import Pen, need_deed

BLANK = (" ", 0)
SIZES = [(1, 1), (1, 4), (4, 1), (2, 2), (3, 5), (10, 20)]


class Model:
    """A pen, written another way: only cells that are not blank are kept, by their places."""

    def __init__(self, height, width):
        self.height, self.width = height, width
        self.cells = {}
        self.row = self.column = self.ink = 0
        self.behind = False

    def move(self, where):
        """Each cell goes where it is told, or is gone, if that is None or outside."""
        moved = {}
        for place, cell in self.cells.items():
            there = where(*place)
            if there is not None and 0 <= there[0] < self.height and 0 <= there[1] < self.width:
                moved[there] = cell
        self.cells = moved

    def down(self):
        if self.row + 1 < self.height:
            self.row += 1
        else:
            self.move(lambda row, column: (row - 1, column))

    def say(self, text):
        for sign in text:
            if self.behind:
                self.column, self.behind = 0, False
                self.down()
            self.cells[self.row, self.column] = (sign, self.ink)
            if self.column + 1 == self.width:
                self.behind = True
            else:
                self.column += 1

    def line(self):
        self.down()

    def home(self):
        self.column, self.behind = 0, False

    def back(self):
        self.column, self.behind = self.column - 1 if self.column else 0, False

    def go(self, row, column):
        self.row = row if row < self.height else self.height - 1
        self.column = column if column < self.width else self.width - 1
        self.behind = False

    def set_ink(self, ink):
        self.ink = ink

    def wipe(self, which):
        gone = {
            "row": lambda row, column: row == self.row,
            "rest": lambda row, column: row == self.row and column >= self.column,
            "all": lambda row, column: True,
        }[which]
        self.move(lambda row, column: None if gone(row, column) else (row, column))

    def roll(self, by):
        self.move(lambda row, column: (row - by, column))

    def open(self, many):
        self.move(lambda row, column: (row, column + many * (row == self.row and column >= self.column)))

    def cut(self, many):
        def where(row, column):
            if row != self.row or column < self.column:
                return row, column
            return (row, column - many) if column >= self.column + many else None
        self.move(where)

    def more(self, many):
        self.move(lambda row, column: (row + many * (row >= self.row), column))

    def less(self, many):
        def where(row, column):
            if row < self.row:
                return row, column
            return (row - many, column) if row >= self.row + many else None
        self.move(where)

    def write(self, deeds):
        for word, *told in deeds:
            getattr(self, "set_ink" if word == "ink" else word)(*told)

    def face(self):
        rows = tuple(
            tuple(self.cells.get((row, column), BLANK) for column in range(self.width)) for row in range(self.height)
        )
        return rows, self.row, self.column


def some_deed(chance, height, width):
    word = chance.choice(["say"] * 8 + "line home back go ink wipe roll open cut more less".split())
    if word == "say":
        return word, "".join(chance.choice("abc ") for at in range(chance.randint(1, width + 2)))
    if word in ("line", "home", "back"):
        return (word,)
    if word == "go":
        return word, chance.randint(0, height), chance.randint(0, width)
    if word == "ink":
        return word, chance.randint(0, 7)
    if word == "wipe":
        return word, chance.choice(["row", "rest", "row", "rest", "all"])
    if word == "roll":
        return word, chance.choice([-99, -height, -1, 0, 1, height - 1, 99])
    return word, chance.choice([0, 1, 1, 1, 2, height, width, 99])


class TestByModel(unittest.TestCase):
    def test_rows_of_deeds(self):
        for height, width in SIZES:
            chance = random.Random(1000 * height + width)
            for turn in range(20):
                pen, model = Pen(height, width), Model(height, width)
                for step in range(60):
                    deed = some_deed(chance, height, width)
                    need_deed(deed)
                    pen.write([deed])
                    model.write([deed])
                    need_face(pen.face())
                    self.assertEqual(pen.face(), model.face(), deed)


if __name__ == "__main__":
    unittest.main()
