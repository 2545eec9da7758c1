"""Ladders struck out: no number stands alone there. And the maps there and back."""

from relationladder.errors import NoRung
from relationladder.striking import Striking
from relationladder.towers import tower
from relationladder.towers import tower_degrees
from relationladder.towers import tower_rungs
from relationladder.vectors import row_of
from relationladder.vectors import terms_of
from relationladder.vectors import unit


class Struck:
    def __init__(self, ladder):
        self.own_ring = ladder.ring()
        self.stand_degrees = ladder.stand_degrees
        self.striking = Striking(ladder.ring(), ladder.own_rungs, ladder.stand_degrees, 0)
        self.kept_places = self.striking.kept_places

    def kept(self):
        return list(self.kept_places[0])

    def columns(self):
        return self.kept_degrees(0)

    def rungs(self):
        found = []
        for stand in range(1, len(self.kept_places)):
            if self.kept_places[stand] != []:
                vectors = [self.striking.thin_row(stand, place) for place in self.kept_places[stand]]
                found.append((self.kept_degrees(stand - 1), [self.over_kept(stand - 1, vector) for vector in vectors]))
        return found

    def degrees(self):
        return rising_degrees(self.stand_degrees, self.kept_places)

    def there(self, stand):
        self.check(stand)
        frame = self.striking.frames[stand]
        units = [unit(frame, place) for place in range(frame.many_places())]
        return [self.over_kept(stand, vector) for vector in self.striking.all_there(stand, units)]

    def back(self, stand):
        self.check(stand)
        vectors = [self.striking.back(stand, place) for place in self.kept_places[stand]]
        return [row_of(self.own_ring, self.striking.frames[stand], terms_of(vector)) for vector in vectors]

    def check(self, stand):
        if stand < 0 or stand >= len(self.stand_degrees):
            raise NoRung("the ladder has no such stand")

    def kept_degrees(self, stand):
        return [self.stand_degrees[stand][place] for place in self.kept_places[stand]]

    def over_kept(self, stand, vector):
        row = row_of(self.own_ring, self.striking.frames[stand], terms_of(vector))
        return [row[place] for place in self.kept_places[stand]]


def rising_degrees(stand_degrees, kept_places):
    found = []
    for degrees, places in zip(stand_degrees, kept_places):
        found.append(sorted([degrees[place] for place in places]))
    return found[:1] + [levels for levels in found[1:] if levels != []]


# The degrees of a table's struck-out ladder. They are the same for all ladders: so a tower will do, which is made far
# sooner than a ladder, since that begins with the whole table.
def thin_degrees(ring, columns, table):
    bases = tower(ring, columns, table)
    stand_degrees = tower_degrees(columns, bases[:-1])
    return rising_degrees(stand_degrees, Striking(ring, tower_rungs(bases), stand_degrees, 0).kept_places)
