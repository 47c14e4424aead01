"""A bad road for tests: it loses, doubles, delays and mixes what is put on it, by a chance that is handed in."""

import copy


class Road:
    def __init__(self, chance, lost=0.3, doubled=0.2, delayed=0.5):
        self.chance = chance
        self.lost, self.doubled, self.delayed = lost, doubled, delayed
        self.under_way = []

    def send(self, thing):
        """Put a thing on the road: lost, once or twice."""
        if thing is None or self.chance.random() < self.lost:
            return
        for turn in range(2 if self.chance.random() < self.doubled else 1):
            self.under_way.append(copy.deepcopy(thing))

    def come(self):
        """What comes out now, in any order; the rest comes later."""
        self.chance.shuffle(self.under_way)
        many = sum(self.chance.random() >= self.delayed for thing in self.under_way)
        out, self.under_way = self.under_way[:many], self.under_way[many:]
        return out


ROADS = [
    {"lost": 0.0, "doubled": 0.0, "delayed": 0.0},
    {"lost": 0.3, "doubled": 0.2, "delayed": 0.5},
    {"lost": 0.8, "doubled": 0.1, "delayed": 0.2},
    {"lost": 0.0, "doubled": 0.5, "delayed": 0.9},
    {"lost": 0.5, "doubled": 0.5, "delayed": 0.8},
]
