"""[1], [2] and [3] over the whole program: its parts work together as the document promises."""

import copy
import random
import unittest

import farpanes.errors as errors
from farpanes.changes import change_of, cost
from farpanes.desks import Desk
from farpanes.ends import Hearer, Teller
from farpanes.faces import blank, need_face
from farpanes.films import cost_of, cut, face_at, filmed, slowed, spliced
from farpanes.guesses import Guesser
from farpanes.keys import Board, Typer
from farpanes.panes import areas, joined, parted
from farpanes.papers import read_change, written_change
from farpanes.talks import Talk, written_talk
from farpanes.words import read_layout, written_layout
from tests.common import face_of, refused
from tests.roads import ROADS, Road
from tests.test_pens_by_model import some_deed


def some_deeds(chance, many=3):
    return [some_deed(chance, 4, 6) for at in range(many)]


def some_step(chance, desk, size):
    """Do something with a desk that may be refused; its size stays, as faces told over a road have one size."""
    names = [place[0] for place in areas(desk.layout(), *size)]
    name, other, new = chance.choice(names), chance.choice(names), chance.choice("abcdefgh")
    word = chance.choice(["write"] * 6 + ["split"] * 3 + ["close", "swap", "choose", "undo"])
    told = {
        "write": (name, some_deeds(chance)), "split": (name, chance.choice(["beside", "below"]), chance.randint(1, 5), new),
        "close": (name,), "swap": (name, other), "choose": (name,), "undo": (),
    }[word]
    try:
        getattr(desk, word)(*told)
    except errors.ScreenError as error:
        return type(error)
    return None


class TestTalksOnADesk(unittest.TestCase):
    def test_however_a_talk_is_cut_the_face_is_the_same(self):
        for seed in range(40):
            chance = random.Random(seed)
            deeds = some_deeds(chance, 30)
            whole = Desk(6, 9, "a")
            whole.split("a", "beside", 5, "b")
            whole.write("a", deeds)
            pieces, talk, text = copy.deepcopy(whole), Talk(), written_talk(deeds)
            pieces.undo()
            while text:
                at = chance.randint(1, 7)
                pieces.write("a", talk.feed(text[:at]))
                text = text[at:]
            self.assertEqual(pieces.face(), whole.face())
            self.assertEqual(pieces.pane("a"), whole.pane("a"))


class TestADeskOverARoad(unittest.TestCase):
    def test_the_face_there_becomes_the_face_here(self):
        for at, ways in enumerate(ROADS):
            for seed in range(4):
                self.travel(random.Random(10 * at + seed), ways)

    def travel(self, chance, ways):
        size = (7, 12)
        desk = Desk(*size, "a")
        teller, hearer = Teller(desk.face()), Hearer(desk.face())
        there, back = Road(chance, **ways), Road(chance, **ways)
        told, number = {0: desk.face()}, 0
        for turn in range(300):
            if turn < 80:
                some_step(chance, desk, size)
                teller.show(desk.face())
            if turn == 80:
                there.lost, there.delayed, back.lost, back.delayed = 0.3, 0.3, 0.3, 0.3
            packet = teller.tick()
            if packet is not None:
                told.setdefault(packet[1], desk.face())
                there.send((*packet[:3], written_change(packet[3])))
            for start, to, keep, text in there.come():
                back.send(hearer.took((start, to, keep, read_change(text))))
                self.assertEqual(hearer.face(), told[hearer.number()])
                self.assertGreaterEqual(hearer.number(), number)
                number = hearer.number()
            for heard in back.come():
                teller.heard(heard)
        self.assertIs(teller.is_at_rest(), True)
        self.assertIsNone(teller.tick())
        self.assertEqual(hearer.face(), desk.face())

    def test_keys_come_and_guesses_are_settled(self):
        for at, ways in enumerate(ROADS):
            for seed in range(4):
                self.type_over(random.Random(10 * at + seed), ways)

    def type_over(self, chance, ways):
        """Keys go there, a desk there echoes them, its faces come back with how many keys they have seen."""
        desk = Desk(4, 15, "a")
        desk.split("a", "beside", 4, "b")
        desk.choose("b")
        typer, board, guesser = Typer(), Board(), Guesser(desk.face())
        there, back = Road(chance, **ways), Road(chance, **ways)
        seen = 0
        for turn in range(400):
            if turn < 60:
                key = chance.choice("abc \n")
                typer.press(key)
                guesser.press(key)
            if turn == 60:
                there.lost, there.delayed, back.lost, back.delayed = 0.3, 0.3, 0.3, 0.3
            there.send(typer.tick())
            for packet in there.come():
                new, many = board.took(packet)
                for key in new:
                    desk.write("b", [("home",), ("line",)] if key == "\n" else [("say", key)])
                back.send((many, desk.face()))
            for many, face in back.come():
                typer.heard(many)
                if many >= seen:
                    guesser.came(face, many)
                    seen = many
                need_face(guesser.shown())
        self.assertIsNone(typer.tick())
        self.assertEqual(seen, typer.pressed())
        self.assertEqual(guesser.shown(), desk.face())


class TestADeskAsAFilm(unittest.TestCase):
    def test_a_film_shows_the_faces_it_was_made_of(self):
        for seed in range(15):
            chance = random.Random(seed)
            desk, pairs, tick = Desk(7, 12, "a"), [], 0
            for step in range(25):
                pairs.append((tick, desk.face()))
                tick += chance.randint(1, 3)
                some_step(chance, desk, (7, 12))
            film = filmed(pairs)
            for tick, face in pairs:
                self.assertEqual(face_at(film, tick), face)
            steps = zip(pairs, pairs[1:])
            self.assertEqual(cost_of(film), sum(cost(change_of(one[1], other[1])) for one, other in steps))
            half = film[1] // 2
            again = spliced(cut(film, 0, half), cut(film, half + 1, film[1]))
            self.assertEqual(again, film)
            self.assertEqual(face_at(slowed(film, 3), 3 * pairs[5][0] + 2), face_at(film, pairs[5][0]))


class TestPanesOfADesk(unittest.TestCase):
    def test_what_is_done_with_one_pane_changes_no_other_one_but_where_sizes_change(self):
        for seed in range(60):
            chance = random.Random(seed)
            desk = Desk(9, 18, "a")
            for step in range(40):
                before = {place[0]: (place[3:], desk.pane(place[0])) for place in areas(desk.layout(), 9, 18)}
                taken = chance.choice([None, "write", "write", "split", "close", "swap", "choose"])
                name, other = chance.choice(list(before)), chance.choice(list(before))
                told = {"write": (name, some_deeds(chance)), "close": (name,), "swap": (name, other), "choose": (name,),
                        "split": (name, chance.choice(["beside", "below"]), chance.randint(1, 5), chance.choice("abcdefg"))}
                try:
                    getattr(desk, taken or "split")(*told[taken or "split"])
                except (errors.BadName, errors.BadLayout):
                    pass
                for pane, row, column, *size in areas(desk.layout(), 9, 18):
                    if pane in before and before[pane][0] == tuple(size) and (taken, pane) != ("write", name):
                        self.assertEqual(desk.pane(pane), before[pane][1])
                self.check_face(desk)

    def check_face(self, desk):
        """The face is put together of the panes, and is put together again when it was taken apart."""
        layout, face = desk.layout(), desk.face()
        self.assertEqual(read_layout(written_layout(layout)), layout)
        parts = parted(layout, face)
        for name in parts:
            self.assertEqual(parts[name][0], desk.pane(name)[0])
        self.assertEqual(parts[desk.chosen()], desk.pane(desk.chosen()))
        self.assertEqual(joined(layout, 9, 18, parts, desk.chosen()), face)

    def test_a_desk_of_which_all_deeds_were_taken_back_is_as_it_was(self):
        for seed in range(30):
            chance = random.Random(seed)
            desk = Desk(9, 18, "a")
            for step in range(30):
                some_step(chance, desk, (9, 18))
            while True:
                try:
                    desk.undo()
                except errors.Nothing:
                    break
            self.assertEqual((desk.layout(), desk.chosen(), desk.face()), (("pane", "a"), "a", blank(9, 18)))
            desk.write("a", [("say", "x")])
            self.assertEqual(desk.pane("a")[0][0][0], ("x", 0))


class TestRefusals(unittest.TestCase):
    def test_each_is_raised_as_a_screen_error_of_its_own_class(self):
        face, desk = face_of("ab"), Desk(3, 3, "a")
        for kind, call, *told in [
            (errors.BadFace, Teller, None),
            (errors.BadFace, Hearer, None),
            (errors.BadFace, Guesser, None),
            (errors.BadFace, desk.resize, 0, 0),
            (errors.BadPacket, Teller(face).heard, 1),
            (errors.BadPacket, Hearer(face).took, (0, 1, 0, [("cursor", 1, 0)])),
            (errors.BadPacket, Typer().press, "%"),
            (errors.BadPacket, Board().took, (0, "")),
            (errors.BadPacket, Guesser(face).came, face, 1),
            (errors.BadLayout, read_layout, "pane"),
            (errors.BadLayout, desk.split, "a", "beside", 9, "b"),
            (errors.BadName, joined, ("pane", "a"), 1, 2, {}, "a"),
            (errors.BadName, desk.close, "a"),
            (errors.BadDeed, desk.write, "a", [("do",)]),
            (errors.BadFilm, filmed, []),
            (errors.BadFilm, face_at, (face, 0, ()), 1),
            (errors.Nothing, desk.undo),
        ]:
            refused(self, kind, call, *told)


if __name__ == "__main__":
    unittest.main()
