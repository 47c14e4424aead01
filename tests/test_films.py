"""[121], [122] and [123], and [1] to [3] of them: films."""

import copy
import itertools
import random
import time
import unittest

from farpanes.changes import change_of, changed, cost
from farpanes.errors import BadFilm
from farpanes.faces import blank
from farpanes.films import cost_of, cut, face_at, filmed, need_film, slowed, spliced
from farpanes.pens import Pen
from tests.common import NO_FACES, NO_NUMBERS, NO_TUPLES, face_of, refused
from tests.test_changes import BAD_PARTS
from tests.test_changes import NO_LISTS as NO_CHANGES
from tests.test_pens_by_model import some_deed

HUGE = 10 ** 5000
FACE = face_of("abc", "def", row=1, column=2, ink=3)
PUT = [("put", 0, 1, 5, "XY")]
ROLL = [("roll", 1)]
CURSOR = [("cursor", 0, 0)]
NO_LISTS = NO_TUPLES + [(), (0,), ((0, FACE),), {0: FACE}]

FILM = (FACE, 9, ((2, PUT), (3, CURSOR), (9, ROLL)))

GOOD_FILMS = [
    (FACE, 0, ()),
    (FACE, 1, ()),
    (FACE, 9999, ()),
    (FACE, 1, ((1, PUT),)),
    (FACE, 9999, ((1, PUT), (9999, ROLL))),
    (FACE, 5, ((1, PUT), (2, PUT), (3, ROLL), (4, ROLL), (5, CURSOR))),
    (FACE, 3, ((2, []),)),
    (FACE, 3, ((2, PUT + ROLL + CURSOR + ROLL + PUT + CURSOR),)),
    (blank(1, 1), 7, ((7, CURSOR),)),
    (blank(10, 20), 7, ((7, [("put", 9, 0, 7, "x" * 20), ("cursor", 9, 19)]),)),
    FILM,
]

CAN_NOT_BE_DONE = [[("cursor", 2, 0)], [("cursor", 0, 3)], [("put", 2, 0, 0, "a")], [("put", 0, 3, 0, "a")],
                   [("put", 0, 0, 0, "abcd")], [("put", 0, 2, 0, "ab")], ROLL + [("cursor", HUGE, 0)]]


def bad_films():
    wrong = list(NO_TUPLES) + [(), (FACE,), (FACE, 5), (FACE, 5, (), ()), (FACE, (), 5), (5, FACE, ())]
    wrong += [list(FILM), (FILM,), FACE, [FACE, 5, ()], (FACE, 9, FILM[2], 0)]
    wrong += [(thing, 5, ()) for thing in NO_FACES]
    wrong += [(thing, 5, ((1, ROLL),)) for thing in NO_FACES]
    wrong += [(FACE, thing, ()) for thing in NO_NUMBERS + [-1, 10000, 10001, HUGE, -HUGE]]
    wrong += [(FACE, thing, ((1, PUT),)) for thing in (True, False, None, "5", 0, -1, 10000)]
    wrong += [(FACE, 5, thing) for thing in NO_TUPLES + [[(1, PUT)], (1, PUT), ((1, PUT), 2), (PUT,), ({1: PUT},)]]
    wrong += [(FACE, 5, (thing,)) for thing in NO_TUPLES + [(), (1,), (1, PUT, PUT), [1, PUT], (PUT, 1), ((1, PUT),)]]
    wrong += [(FACE, 5, ((1, PUT), thing)) for thing in NO_TUPLES + [(), (2,), (2, PUT, 1), [2, PUT]]]
    wrong += [(FACE, 5, ((thing, PUT),)) for thing in NO_NUMBERS + [0, -1, 6, 7, 9999, 10000, HUGE, -HUGE]]
    wrong += [(FACE, 0, ((0, PUT),)), (FACE, 0, ((1, PUT),)), (FACE, 5, ((True, PUT),)), (FACE, 9999, ((10000, PUT),))]
    wrong += [(FACE, 5, ((one, PUT), (other, PUT))) for one in range(1, 6) for other in range(1, 6) if other <= one]
    wrong += [(FACE, 5, ((1, PUT), (2, PUT), (2, ROLL))), (FACE, 5, ((1, PUT), (3, PUT), (2, ROLL), (4, PUT)))]
    wrong += [(FACE, 5, ((4, PUT), (True, PUT))), (FACE, 5, ((1, PUT), (6, PUT))), (FACE, 5, ((1, PUT), (False, PUT)))]
    wrong += [(FACE, 5, ((1, thing),)) for thing in NO_CHANGES]
    wrong += [(FACE, 5, ((1, [part]),)) for part in BAD_PARTS]
    wrong += [(FACE, 5, ((1, PUT), (2, PUT + [part]))) for part in BAD_PARTS]
    wrong += [(FACE, 5, ((1, change),)) for change in CAN_NOT_BE_DONE]
    wrong += [(FACE, 5, ((1, PUT), (5, ROLL + change))) for change in CAN_NOT_BE_DONE]
    return wrong


def faces_by_hand(film):
    """The faces of a film, tick by tick."""
    face, length, changes = film
    by_tick = dict(changes)
    faces = []
    for tick in range(length + 1):
        face = changed(face, by_tick.get(tick, []))
        faces.append(face)
    return faces


def faces_of(film):
    return [face_at(film, tick) for tick in range(film[1] + 1)]


def some_pairs(chance, height, width, many, step=4):
    """Ticks and faces; some faces stay, and some come back."""
    pen, tick, pairs = Pen(height, width), 0, []
    for at in range(many):
        pairs.append((tick, pen.face()))
        tick += chance.randint(1, step)
        if chance.random() < 0.7:
            pen.write([some_deed(chance, height, width)])
    return pairs


class TestNeedFilm(unittest.TestCase):
    def test_what_is_a_film(self):
        for film in GOOD_FILMS:
            self.assertIsNone(need_film(film))

    def test_all_else_is_refused(self):
        for thing in bad_films():
            refused(self, BadFilm, need_film, thing)

    def test_a_change_is_done_on_the_face_behind_those_ahead(self):
        # All changes keep the size, so each can be done there if it can be done on the first face.
        film = (blank(2, 2), 3, ((1, [("roll", 10)]), (2, [("put", 1, 0, 1, "ab")]), (3, [("cursor", 1, 1)])))
        self.assertIsNone(need_film(film))
        refused(self, BadFilm, need_film, film[:2] + (film[2][:2] + ((3, [("cursor", 2, 1)]),),))

    def test_others_refuse_the_same(self):
        for thing in bad_films():
            refused(self, BadFilm, face_at, thing, 0)
            refused(self, BadFilm, cost_of, thing)
            refused(self, BadFilm, cut, thing, 0, 0)
            refused(self, BadFilm, spliced, thing, FILM)
            refused(self, BadFilm, spliced, FILM, thing)
            refused(self, BadFilm, slowed, thing, 1)

    def test_a_long_film_ends_soon(self):
        face = blank(10, 20)
        film = (face, 9999, tuple((tick, [("put", tick % 10, 0, 1, "x" * 20)]) for tick in range(1, 10000)))
        start = time.perf_counter()
        need_film(film)
        self.assertEqual(face_at(film, 9999), changed(face, [("put", row, 0, 1, "x" * 20) for row in range(10)]))
        self.assertLess(time.perf_counter() - start, 30)


class TestFaceAtAndCost(unittest.TestCase):
    def test_each_tick(self):
        self.assertEqual(face_at(FILM, 0), FACE)
        self.assertEqual(face_at(FILM, 1), FACE)
        second = changed(FACE, PUT)
        third = changed(second, CURSOR)
        self.assertEqual(face_at(FILM, 2), second)
        for tick in range(3, 9):
            self.assertEqual(face_at(FILM, tick), third)
        self.assertEqual(face_at(FILM, 9), changed(third, ROLL))

    def test_other_films(self):
        for film in GOOD_FILMS:
            if film[1] < 100:
                self.assertEqual(faces_of(film), faces_by_hand(film))
        film = (FACE, 9999, ((1, PUT), (9999, ROLL)))
        self.assertEqual(face_at(film, 9998), changed(FACE, PUT))
        self.assertEqual(face_at(film, 9999), changed(changed(FACE, PUT), ROLL))

    def test_other_ticks(self):
        for film in GOOD_FILMS:
            for thing in NO_NUMBERS + [-1, film[1] + 1, film[1] + 2, 10000, HUGE, -HUGE]:
                refused(self, BadFilm, face_at, film, thing)

    def test_cost(self):
        self.assertEqual(cost_of((FACE, 9, ())), 0)
        self.assertEqual(cost_of(FILM), 6 + 3 + 4)
        self.assertEqual(cost_of((FACE, 3, ((2, []),))), 0)
        for film in GOOD_FILMS:
            self.assertEqual(cost_of(film), sum(cost(change) for tick, change in film[2]))
            self.assertIs(type(cost_of(film)), int)


class TestFilmed(unittest.TestCase):
    def check(self, pairs):
        kept = copy.deepcopy(pairs)
        film = filmed(pairs)
        self.assertEqual(pairs, kept)
        need_film(film)
        self.assertIs(type(film), tuple)
        self.assertEqual(film[:2], (pairs[0][1], pairs[-1][0]))
        face, at, faces = None, dict(pairs), []
        for tick in range(pairs[-1][0] + 1):
            face = at.get(tick, face)
            faces.append(face)
        if len(faces) < 100:
            self.assertEqual(faces_of(film), faces)
        else:
            self.assertEqual(faces_by_hand(film), faces)
        wanted = [tick for tick in range(1, len(faces)) if faces[tick] != faces[tick - 1]]
        self.assertEqual([tick for tick, change in film[2]], wanted)
        for tick, change in film[2]:
            self.check_kind(change, faces[tick - 1], faces[tick])
        return film

    def check_kind(self, change, one, other):
        self.assertLessEqual(cost(change), cost(change_of(one, other)))
        words = [part[0] for part in change]
        puts = ["put"] * words.count("put") + ["cursor"] * (one[1:] != other[1:])
        self.assertIn(words, [puts, ["roll"] + puts])

    def test_one_pair(self):
        self.assertEqual(filmed([(0, FACE)]), (FACE, 0, ()))

    def test_two_pairs(self):
        other = changed(FACE, PUT)
        for tick in (1, 2, 77, 9999):
            self.assertEqual(self.check([(0, FACE), (tick, other)]), (FACE, tick, ((tick, PUT),)))

    def test_the_same_face_twice(self):
        self.assertEqual(self.check([(0, FACE), (5, face_of("abc", "def", row=1, column=2, ink=3))]), (FACE, 5, ()))
        other = changed(FACE, CURSOR)
        film = self.check([(0, FACE), (2, FACE), (3, other), (7, other), (8, FACE), (9, FACE)])
        self.assertEqual([tick for tick, change in film[2]], [3, 8])

    def test_ticks_at_both_ends(self):
        other, third = changed(FACE, PUT), changed(FACE, ROLL)
        film = self.check([(0, FACE), (1, other), (9998, third), (9999, FACE)])
        self.assertEqual([tick for tick, change in film[2]], [1, 9998, 9999])

    def test_faces_that_only_differ_in_ink_or_cursor(self):
        self.check([(0, face_of("a b", ink=1)), (1, face_of("a b", ink=2)), (2, face_of("a b", column=1, ink=2))])

    def test_many_films(self):
        for seed in range(60):
            chance = random.Random(seed)
            height, width = chance.choice([(1, 1), (1, 5), (3, 4), (10, 20)])
            self.check(some_pairs(chance, height, width, chance.randint(1, 12)))

    def test_lists_are_new_each_time(self):
        pairs = [(0, FACE), (3, changed(FACE, PUT))]
        first = filmed(pairs)
        kept = copy.deepcopy(first)
        first[2][0][1].clear()
        pairs.append((4, FACE))
        self.assertEqual(filmed(pairs[:2]), kept)
        second = filmed(pairs)
        pairs.clear()
        self.assertEqual(second[1], 4)

    def test_what_is_no_list_of_pairs(self):
        for thing in NO_LISTS + [FILM, FACE, "ab", iter([(0, FACE)])]:
            refused(self, BadFilm, filmed, thing)
        refused(self, BadFilm, filmed, [])
        for thing in NO_TUPLES + [(), (0,), (0, FACE, FACE), (FACE, 0), [0, FACE], ((0, FACE),)]:
            refused(self, BadFilm, filmed, [thing])
        for thing in NO_TUPLES + [(), (1,), (1, FACE, FACE), (FACE, 1), [1, FACE], ((1, FACE),)]:
            refused(self, BadFilm, filmed, [(0, FACE), thing])

    def test_ticks(self):
        for thing in NO_NUMBERS + [-1, 1, 2, 9999, 10000, HUGE, -HUGE]:
            refused(self, BadFilm, filmed, [(thing, FACE)])
        refused(self, BadFilm, filmed, [(1, FACE), (2, FACE)])
        refused(self, BadFilm, filmed, [(False, FACE), (True, FACE)])
        for thing in NO_NUMBERS + [-1, 0, 10000, 10001, HUGE, -HUGE]:
            refused(self, BadFilm, filmed, [(0, FACE), (thing, FACE)])
        for ticks in itertools.product(range(4), repeat=3):
            pairs = [(tick, FACE) for tick in ticks]
            if ticks[0] == 0 < ticks[1] < ticks[2]:
                self.check(pairs)
            else:
                refused(self, BadFilm, filmed, pairs)

    def test_faces(self):
        for thing in NO_FACES:
            refused(self, BadFilm, filmed, [(0, thing)])
            refused(self, BadFilm, filmed, [(0, FACE), (1, thing)])
            refused(self, BadFilm, filmed, [(0, thing), (1, FACE)])
        for size in ((1, 3), (2, 2), (3, 2), (3, 3), (2, 4), (1, 6), (10, 20)):
            refused(self, BadFilm, filmed, [(0, FACE), (1, blank(*size))])
            refused(self, BadFilm, filmed, [(0, blank(*size)), (1, FACE)])
            refused(self, BadFilm, filmed, [(0, FACE), (1, FACE), (2, blank(*size)), (3, FACE)])


class TestCut(unittest.TestCase):
    def test_all_stretches(self):
        films = [film for film in GOOD_FILMS if film[1] < 100]
        films += [filmed(some_pairs(random.Random(seed), 3, 4, 8, 2)) for seed in range(10)]
        for film in films:
            faces, kept = faces_by_hand(film), copy.deepcopy(film)
            for first in range(film[1] + 1):
                for last in range(first, film[1] + 1):
                    part = cut(film, first, last)
                    need_film(part)
                    self.assertEqual(part[:2], (faces[first], last - first))
                    self.assertEqual(faces_by_hand(part), faces[first:last + 1])
                    wanted = tuple((tick - first, change) for tick, change in film[2] if first < tick <= last)
                    self.assertEqual(part[2], wanted)
                    self.assertEqual(cost_of(part), sum(cost(change) for tick, change in wanted))
            self.assertEqual(film, kept)

    def test_by_hand(self):
        self.assertEqual(cut(FILM, 0, 9), FILM)
        self.assertEqual(cut(FILM, 0, 0), (FACE, 0, ()))
        self.assertEqual(cut(FILM, 2, 2), (changed(FACE, PUT), 0, ()))
        self.assertEqual(cut(FILM, 1, 3), (FACE, 2, ((1, PUT), (2, CURSOR))))
        self.assertEqual(cut(FILM, 2, 9), (changed(FACE, PUT), 7, ((1, CURSOR), (7, ROLL))))
        self.assertEqual(cut(FILM, 9, 9), (changed(FACE, PUT + CURSOR + ROLL), 0, ()))

    def test_other_stretches(self):
        for first, last in [(1, 0), (9, 8), (5, 2), (-1, 5), (0, 10), (9, 10), (10, 10), (-1, -1), (0, HUGE), (-HUGE, 0)]:
            refused(self, BadFilm, cut, FILM, first, last)
        for thing in NO_NUMBERS:
            refused(self, BadFilm, cut, FILM, thing, 5)
            refused(self, BadFilm, cut, FILM, 0, thing)
            refused(self, BadFilm, cut, FILM, thing, thing)
        refused(self, BadFilm, cut, (FACE, 0, ()), 0, 1)

    def test_lists_are_new(self):
        film = copy.deepcopy(FILM)
        for part in (cut(film, 0, 9), cut(film, 1, 5)):
            kept = copy.deepcopy(part)
            for tick, change in part[2]:
                change.append(("roll", 2))
            self.assertEqual(film, FILM)
            self.assertEqual(cut(film, 0 if part[1] == 9 else 1, 9 if part[1] == 9 else 5), kept)


class TestSpliced(unittest.TestCase):
    def check(self, one, other):
        kept = copy.deepcopy((one, other))
        film = spliced(one, other)
        self.assertEqual((one, other), kept)
        need_film(film)
        faces = faces_by_hand(one) + faces_by_hand(other)
        self.assertEqual(film[:2], (one[0], one[1] + 1 + other[1]))
        self.assertEqual(faces_by_hand(film), faces)
        seam = one[1] + 1
        between = [(tick, change) for tick, change in film[2] if tick == seam]
        ends = faces[seam - 1], faces[seam]
        self.assertEqual(len(between), int(ends[0] != ends[1]))
        for tick, change in between:
            self.assertLessEqual(cost(change), cost(change_of(*ends)))
        self.assertEqual(film[2][:len(one[2])], one[2])
        wanted = tuple((tick + seam, change) for tick, change in other[2])
        self.assertEqual(film[2][len(one[2]):], tuple(between) + wanted)
        self.assertEqual(cost_of(film), cost_of(one) + cost_of(other) + cost(change_of(*ends)))
        return film

    def test_the_same_face_at_the_seam(self):
        self.assertEqual(self.check((FACE, 0, ()), (FACE, 0, ())), (FACE, 1, ()))
        self.assertEqual(self.check((FACE, 3, ((3, PUT),)), (changed(FACE, PUT), 2, ((1, CURSOR),)))[2],
                         ((3, PUT), (5, CURSOR)))

    def test_another_face_at_the_seam(self):
        other = changed(FACE, PUT)
        self.assertEqual(self.check((FACE, 0, ()), (other, 0, ())), (FACE, 1, ((1, PUT),)))
        self.assertEqual(self.check((FACE, 4, ()), (other, 3, ((1, ROLL), (3, ROLL)))),
                         (FACE, 8, ((5, PUT), (6, ROLL), (8, ROLL))))
        self.check(FILM, FILM)
        self.check((FACE, 2, ((1, ROLL), (2, PUT))), FILM)

    def test_each_two_films(self):
        films = [film for film in GOOD_FILMS if film[0] == FACE and film[1] < 100]
        films += [filmed([(0, FACE)] + [(tick + 1, face) for tick, face in some_pairs(random.Random(seed), 2, 3, 6)])
                  for seed in range(8)]
        for one, other in itertools.product(films, repeat=2):
            self.check(one, other)

    def test_what_was_cut_is_spliced_again(self):
        for seed in range(10):
            film = filmed(some_pairs(random.Random(seed), 3, 4, 8, 2))
            for at in range(film[1]):
                again = self.check(cut(film, 0, at), cut(film, at + 1, film[1]))
                self.assertEqual(faces_by_hand(again), faces_by_hand(film))
                self.assertEqual(cost_of(again), cost_of(film))

    def test_other_sizes(self):
        for size in ((1, 3), (2, 2), (3, 2), (3, 3), (2, 4), (1, 6), (10, 20)):
            refused(self, BadFilm, spliced, FILM, (blank(*size), 0, ()))
            refused(self, BadFilm, spliced, (blank(*size), 0, ()), FILM)

    def test_beyond_the_last_tick(self):
        other = changed(FACE, PUT)
        for one, two in [(0, 9998), (9998, 0), (5000, 4998), (9990, 8)]:
            self.assertEqual(spliced((FACE, one, ()), (other, two, ())), (FACE, 9999, ((one + 1, PUT),)))
        for one, two in [(0, 9999), (9999, 0), (5000, 4999), (9999, 9999), (9990, 9)]:
            refused(self, BadFilm, spliced, (FACE, one, ()), (other, two, ()))
            refused(self, BadFilm, spliced, (FACE, one, ()), (FACE, two, ()))

    def test_lists_are_new(self):
        one, other = copy.deepcopy(FILM), copy.deepcopy(FILM)
        film = spliced(one, other)
        kept = copy.deepcopy(film)
        for tick, change in film[2]:
            change.clear()
        self.assertEqual((one, other), (FILM, FILM))
        self.assertEqual(spliced(one, other), kept)


class TestSlowed(unittest.TestCase):
    def test_by_each_number(self):
        for film in GOOD_FILMS:
            for by in range(1, 10):
                if film[1] * by > 9999:
                    refused(self, BadFilm, slowed, film, by)
                    continue
                kept = copy.deepcopy(film)
                slow = slowed(film, by)
                self.assertEqual(film, kept)
                need_film(slow)
                self.assertEqual(slow, (film[0], film[1] * by, tuple((tick * by, change) for tick, change in film[2])))
                faces = faces_by_hand(film)
                for tick in range(min(slow[1], 100) + 1):
                    self.assertEqual(face_at(slow, tick), faces[tick // by])
                self.assertEqual(cost_of(slow), cost_of(film))

    def test_by_other_numbers(self):
        for film in (FILM, (FACE, 0, ()), (FACE, 9999, ())):
            for thing in NO_NUMBERS + [0, -1, 10, 11, HUGE, -HUGE]:
                refused(self, BadFilm, slowed, film, thing)

    def test_beyond_the_last_tick(self):
        for by in range(1, 10):
            most = 9999 // by
            self.assertEqual(slowed((FACE, most, ((most, PUT),)), by), (FACE, most * by, ((most * by, PUT),)))
            if by > 1:
                refused(self, BadFilm, slowed, (FACE, most + 1, ()), by)
                refused(self, BadFilm, slowed, (FACE, most + 1, ((1, PUT),)), by)

    def test_lists_are_new(self):
        for by in (1, 3):
            film = copy.deepcopy(FILM)
            slow = slowed(film, by)
            kept = copy.deepcopy(slow)
            for tick, change in slow[2]:
                change.clear()
            self.assertEqual(film, FILM)
            self.assertEqual(slowed(film, by), kept)


if __name__ == "__main__":
    unittest.main()
