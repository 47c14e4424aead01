"""[42], and [2] of it: no change of the kind costs less, by slow searches that know nothing of the program."""

import functools
import itertools
import random
import time
import unittest

from farpanes.changes import change_of, changed, cost, need_change

BLANK = (" ", 0)


@functools.lru_cache(maxsize=None)
def ways_to_put(width):
    """All sets of puts in a row that put no cell twice, each put as its first column and the one behind it."""
    if width == 0:
        return [()]
    ways = list(ways_to_put(width - 1))
    for first in range(width):
        ways += [way + ((first, width),) for way in ways_to_put(first)]
    return ways


def put_all(old, new, way):
    """The cells after a way of puts, None if a put would need several inks."""
    cells = list(old)
    for first, last in way:
        if len({ink for sign, ink in new[first:last]}) > 1:
            return None
        cells[first:last] = new[first:last]
    return tuple(cells)


@functools.lru_cache(maxsize=None)
def row_by_search(old, new):
    """The least that puts in a row cost: all ways are looked at."""
    done = [way for way in ways_to_put(len(new)) if put_all(old, new, way) == new]
    return min(sum(4 + last - first for first, last in way) for way in done)


@functools.lru_cache(maxsize=None)
def row_by_table(old, new):
    """The same for wide rows: the least cost up to each column, each put that ends there looked at."""
    best = [0]
    for column in range(1, len(new) + 1):
        costs = [best[-1]] if old[column - 1] == new[column - 1] else []
        for first in range(column):
            if len({ink for sign, ink in new[first:column]}) == 1:
                costs.append(best[first] + 4 + column - first)
        best.append(min(costs))
    return best[-1]


def roll_rows(rows, by):
    """Rows rolled, row by row."""
    blank = (BLANK,) * len(rows[0])
    return [rows[at + by] if 0 <= at + by < len(rows) else blank for at in range(len(rows))]


def least_cost(one, other, row_cost):
    """The least cost of all rolls there are, and none."""
    costs = []
    for by in range(-10, 11):
        puts = sum(row_cost(old, new) for old, new in zip(roll_rows(one[0], by), other[0]))
        costs.append(puts + (4 if by else 0))
    return min(costs) + (3 if one[1:] != other[1:] else 0)


def random_face(chance, height, width, cells):
    rows = tuple(tuple(chance.choice(cells) for column in range(width)) for row in range(height))
    return rows, chance.randrange(height), chance.randrange(width)


def altered(chance, face, cells):
    """The face rolled and with some cells changed, so that much of it stays."""
    rows = [list(row) for row in roll_rows(face[0], chance.choice([0, 0, 0, 1, 1, -1, 2, -3]))]
    for at in range(chance.randrange(2 + len(rows) * len(rows[0]) // 3)):
        chance.choice(rows)[chance.randrange(len(rows[0]))] = chance.choice(cells)
    place = face[1:] if chance.random() < 0.5 else (chance.randrange(len(rows)), chance.randrange(len(rows[0])))
    return tuple(tuple(row) for row in rows), *place


class TestBySearch(unittest.TestCase):
    def check(self, one, other, row_cost):
        change = change_of(one, other)
        need_change(change)
        self.check_kind(change, one, other)
        self.assertEqual(changed(one, change), other)
        self.assertEqual(cost(change), least_cost(one, other, row_cost), (one, other))

    def check_kind(self, change, one, other):
        """At most a roll, then puts of cells that are not put twice, then a cursor if it must go."""
        words = [part[0] for part in change]
        puts = [part for part in change if part[0] == "put"]
        cursor = ["cursor"] if one[1:] != other[1:] else []
        self.assertIn(words, [["put"] * len(puts) + cursor, ["roll"] + ["put"] * len(puts) + cursor])
        places = [(row, column + at) for word, row, column, ink, text in puts for at in range(len(text))]
        self.assertEqual(len(places), len(set(places)))

    def test_the_searches_agree(self):
        chance = random.Random(41)
        for turn in range(300):
            width = chance.randint(1, 7)
            old, new = (random_face(chance, 1, width, [("a", 0), ("b", 0), ("a", 1)])[0][0] for at in range(2))
            self.assertEqual(row_by_search(old, new), row_by_table(old, new))

    def test_all_narrow_rows(self):
        cells = [BLANK, ("a", 0), ("a", 1)]
        rows = list(itertools.product(cells, repeat=3))
        for old in rows:
            for new in rows:
                self.check(((old,), 0, 0), ((new,), 0, 2), row_by_search)

    def test_all_small_faces_of_two_rows(self):
        cells = [BLANK, ("a", 0), ("b", 1)]
        faces = [((cells4[:2], cells4[2:]), 0, 0) for cells4 in itertools.product(cells, repeat=4)]
        for one in faces:
            for other in faces:
                self.check(one, other, row_by_search)

    def test_rows_that_are_wide_enough_for_gaps(self):
        chance = random.Random(42)
        for turn in range(60):
            cells = chance.choice([[("a", 0), ("b", 0)], [("a", 0), ("a", 0), ("a", 0), ("b", 0), ("a", 1)]])
            one = random_face(chance, 1, chance.randint(5, 8), cells)
            self.check(one, altered(chance, one, cells), row_by_search)

    def test_several_rows(self):
        chance = random.Random(43)
        for turn in range(60):
            cells = chance.choice([[BLANK, ("a", 0), ("b", 0)], [BLANK, ("a", 0), ("a", 1), ("b", 1)]])
            one = random_face(chance, chance.randint(2, 5), chance.randint(1, 6), cells)
            self.check(one, altered(chance, one, cells), row_by_search)
            self.check(one, random_face(chance, len(one[0]), len(one[0][0]), cells), row_by_search)

    def test_great_faces_end_soon(self):
        chance = random.Random(44)
        few, many = [BLANK, ("a", 0), ("b", 0), ("a", 1)], [(sign, ink) for sign in "ab " for ink in range(8)]
        pairs = []
        for turn in range(25):
            for cells in (few, many, [BLANK, ("a", 0)]):
                one = random_face(chance, 10, 20, cells)
                pairs += [(one, altered(chance, one, cells)), (one, random_face(chance, 10, 20, cells))]
        start = time.perf_counter()
        for one, other in pairs:
            change_of(one, other)
        self.assertLess(time.perf_counter() - start, 60)
        for one, other in pairs[::3]:
            self.check(one, other, row_by_table)


if __name__ == "__main__":
    unittest.main()
