"""Ladders struck out: no number stands alone there. And the maps there and back."""

from relationladder.errors import NoRung
from relationladder.striking import Striking
from relationladder.vectors import row_of
from relationladder.vectors import terms_of
from relationladder.vectors import unit


class Struck:
    def __init__(self, ladder):
        self.own_ring = ladder.ring()
        self.stand_degrees = ladder.stand_degrees
        self.striking = Striking(ladder.ring(), ladder.own_rungs, ladder.stand_degrees, 0)
        self.kept_places = self.striking.kept_places

    def kept(self):
        return list(self.kept_places[0])

    def columns(self):
        return self.kept_degrees(0)

    def rungs(self):
        found = []
        for stand in range(1, len(self.kept_places)):
            if self.kept_places[stand] != []:
                vectors = [self.striking.thin_row(stand, place) for place in self.kept_places[stand]]
                found.append((self.kept_degrees(stand - 1), [self.over_kept(stand - 1, vector) for vector in vectors]))
        return found

    def degrees(self):
        further = [sorted(self.kept_degrees(stand)) for stand in range(1, len(self.kept_places))]
        return [sorted(self.kept_degrees(0))] + [levels for levels in further if levels != []]

    def there(self, stand):
        self.check(stand)
        frame = self.striking.frames[stand]
        units = [unit(frame, place) for place in range(frame.many_places())]
        return [self.over_kept(stand, vector) for vector in self.striking.all_there(stand, units)]

    def back(self, stand):
        self.check(stand)
        vectors = [self.striking.back(stand, place) for place in self.kept_places[stand]]
        return [row_of(self.own_ring, self.striking.frames[stand], terms_of(vector)) for vector in vectors]

    def check(self, stand):
        if stand < 0 or stand >= len(self.stand_degrees):
            raise NoRung("the ladder has no such stand")

    def kept_degrees(self, stand):
        return [self.stand_degrees[stand][place] for place in self.kept_places[stand]]

    def over_kept(self, stand, vector):
        row = row_of(self.own_ring, self.striking.frames[stand], terms_of(vector))
        return [row[place] for place in self.kept_places[stand]]
