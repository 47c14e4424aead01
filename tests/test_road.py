"""[2] of both ends: whatever the road does, a face that is there was told, by its number, and numbers only rise."""

import copy
import random
import unittest

from farpanes.changes import changed
from farpanes.ends import Hearer, Teller
from farpanes.faces import blank
from farpanes.papers import read_change, written_change
from farpanes.pens import Pen
from tests.roads import ROADS, Road
from tests.test_pens_by_model import some_deed


class Journey:
    """A teller and a hearer with a road each way, and what was told by each number, as the teller had it."""

    def __init__(self, test, chance, face, ways):
        self.test, self.chance = test, chance
        self.teller, self.hearer = Teller(face), Hearer(face)
        self.there, self.back = Road(chance, **ways), Road(chance, **ways)
        self.now = face
        self.told = {0: face}

    def show(self, face):
        self.now = face
        self.teller.show(face)

    def tick(self):
        packet = self.teller.tick()
        if packet is not None:
            start, to, keep, change = packet
            self.told.setdefault(to, self.now)
            self.test.assertEqual(self.told[to], self.now)
            self.test.assertEqual(keep, start)
            self.test.assertEqual(changed(self.told[start], change), self.now)
            self.test.assertEqual(read_change(written_change(change)), change)
        self.there.send(packet)

    def come(self):
        for packet in self.there.come():
            before = self.hearer.number()
            kept = copy.deepcopy(packet)
            number = self.hearer.took(packet)
            self.test.assertEqual(packet, kept)
            self.test.assertGreaterEqual(self.hearer.number(), before)
            if number is not None:
                self.test.assertEqual(number, self.hearer.number())
                self.back.send(number)
            self.test.assertEqual(self.hearer.face(), self.told[self.hearer.number()])
        for number in self.back.come():
            self.teller.heard(number)

    def settle(self):
        """No face is shown any more, and the road lets enough by."""
        self.there.lost = self.back.lost = 0.3
        self.there.delayed = self.back.delayed = 0.5
        for turn in range(300):
            self.tick()
            self.come()
        self.test.assertIs(self.teller.is_at_rest(), True)
        self.test.assertIsNone(self.teller.tick())
        self.test.assertEqual(self.hearer.face(), self.now)


class TestRoad(unittest.TestCase):
    def journey(self, seed, ways, height, width):
        chance = random.Random(seed)
        pen = Pen(height, width)
        journey = Journey(self, chance, pen.face(), ways)
        for turn in range(120):
            if chance.random() < 0.7:
                pen.write([some_deed(chance, height, width)])
                journey.show(pen.face())
            if chance.random() < 0.8:
                journey.tick()
            if chance.random() < 0.6:
                journey.come()
        return journey

    def test_roads_of_all_kinds(self):
        for at, ways in enumerate(ROADS):
            for turn, (height, width) in enumerate([(1, 1), (2, 3), (3, 5), (10, 20)]):
                self.journey(100 * at + turn, ways, height, width).settle()

    def test_a_road_that_lets_nothing_by_and_then_does(self):
        journey = self.journey(7, {"lost": 1.0, "doubled": 0.0, "delayed": 0.0}, 3, 5)
        self.assertEqual(journey.hearer.number(), 0)
        self.assertEqual(journey.hearer.face(), blank(3, 5))
        self.assertIs(journey.teller.is_at_rest(), False)
        journey.settle()

    def test_numbers_that_never_come_back(self):
        chance = random.Random(8)
        journey = Journey(self, chance, blank(2, 3), {"lost": 0.2, "doubled": 0.2, "delayed": 0.4})
        journey.back.lost = 1.0
        pen = Pen(2, 3)
        for turn in range(60):
            pen.write([("say", chance.choice("abc"))])
            journey.show(pen.face())
            journey.tick()
            journey.come()
        self.assertGreater(journey.hearer.number(), 6)
        journey.settle()

    def test_old_packets_at_the_very_end(self):
        journey = self.journey(9, {"lost": 0.0, "doubled": 0.0, "delayed": 0.7}, 3, 5)
        packets = list(journey.there.under_way)
        journey.settle()
        number, face = journey.hearer.number(), journey.hearer.face()
        for packet in packets + packets[::-1]:
            self.assertEqual(journey.hearer.took(packet), number)
            self.assertEqual(journey.hearer.face(), face)
        for heard in range(number + 1):
            journey.teller.heard(heard)
            self.assertIs(journey.teller.is_at_rest(), True)


if __name__ == "__main__":
    unittest.main()
