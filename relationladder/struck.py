"""Ladders struck out: no number stands alone there. And the maps there and back."""

from relationladder.bases import Basis
from relationladder.bases import Division
from relationladder.errors import NoRung
from relationladder.numbers import top_and_bottom
from relationladder.packing import raised_frame
from relationladder.striking import all_kept
from relationladder.striking import all_strikes
from relationladder.vectors import mixed
from relationladder.vectors import over_one_bottom
from relationladder.vectors import reframed
from relationladder.vectors import row_of
from relationladder.vectors import terms_of
from relationladder.vectors import unit


# Each stand of the ladder, with what is kept of it and a basis by which all else goes from its rows.
#
# The basis has the mixed row of each strike. In the frame of the stand the places of strikes are raised such that
# its lead is the 1 at the strike's place; so nothing of a rest stands at these places.
class Struck:
    def __init__(self, ladder):
        self.own_ring = ladder.ring()
        self.modulus = self.own_ring.numbers().prime()
        self.bases = ladder.bases
        self.stand_degrees = ladder.stand_degrees
        self.strikes = all_strikes(self.own_ring.numbers(), self.bases, self.stand_degrees)
        self.kept_places = all_kept(self.strikes, self.stand_degrees)
        self.frames = [self.strike_frame(stand) for stand in range(len(self.strikes))]
        self.strike_bases = [self.strike_basis(stand) for stand in range(len(self.strikes))]

    def kept(self):
        return list(self.kept_places[0])

    def columns(self):
        return self.kept_degrees(0)

    def rungs(self):
        found = []
        for stand in range(1, len(self.kept_places)):
            if self.kept_places[stand] != []:
                divisions = [self.division(stand, place) for place in self.kept_places[stand]]
                rows = [self.thin_row(stand - 1, division.rest) for division in divisions]
                found.append((self.kept_degrees(stand - 1), rows))
        return found

    def degrees(self):
        further = [sorted(self.kept_degrees(stand)) for stand in range(1, len(self.kept_places))]
        return [sorted(self.kept_degrees(0))] + [levels for levels in further if levels != []]

    def there(self, stand):
        self.check(stand)
        basis = self.cleared_basis(stand)
        units = [unit(basis.frame, place) for place in range(basis.frame.many_places())]
        return [self.thin_row(stand, Division(basis, vector).rest) for vector in units]

    def back(self, stand):
        self.check(stand)
        return [self.row_back(stand, place) for place in self.kept_places[stand]]

    def check(self, stand):
        if stand < 0 or stand >= len(self.stand_degrees):
            raise NoRung("the ladder has no such stand")

    def kept_degrees(self, stand):
        return [self.stand_degrees[stand][place] for place in self.kept_places[stand]]

    # A rest may also have terms at places that are struck out as rows: nothing comes of these.
    def thin_row(self, stand, terms):
        row = row_of(self.own_ring, self.frames[stand], terms)
        return [row[place] for place in self.kept_places[stand]]

    # The kept row itself is no relation of what else is kept: the rows go along that were taken off it.
    def row_back(self, stand, place):
        frame = self.frames[stand]
        shares = [(1, 1, 0, unit(frame, place))]
        if stand > 0:
            for number, shift, top, bottom in self.division(stand, place).steps:
                shares.append((-top, bottom, shift, self.strike_way(stand - 1, number)))
        return row_of(self.own_ring, frame, terms_of(mixed(self.modulus, shares)))

    # Of a place of a stand from 1 on, which is a row of the rung beneath.
    def division(self, stand, place):
        return Division(self.strike_bases[stand - 1], self.rung_vector(stand - 1, place))

    def rung_vector(self, stand, row):
        basis = self.bases[stand]
        return reframed(basis.vector(row), basis.frame, self.frames[stand])

    def strike_frame(self, stand):
        places = [place for place, row, shares in self.strikes[stand]]
        return raised_frame(self.own_ring.letters(), len(self.stand_degrees[stand]), places)

    def strike_basis(self, stand):
        basis = Basis(self.frames[stand], self.modulus)
        for number in range(len(self.strikes[stand])):
            shares = []
            for row, top, bottom in self.strike_shares(stand, number):
                shares.append((top, bottom, 0, self.rung_vector(stand, row)))
            basis.add_row(mixed(self.modulus, shares)[0])
        return basis

    def strike_way(self, stand, number):
        offsets = self.frames[stand + 1].offsets
        shares = self.strike_shares(stand, number)
        return over_one_bottom([(offsets[row], top, bottom) for row, top, bottom in shares])

    def strike_shares(self, stand, number):
        found = []
        for row, share in self.strikes[stand][number][2].items():
            fraction = top_and_bottom(self.own_ring.numbers(), share)
            found.append((row, fraction[0], fraction[1]))
        return found

    # Each row is divided by those behind it once, and not again with each row that it is taken off from.
    def cleared_basis(self, stand):
        basis = self.strike_bases[stand]
        cleared = Basis(basis.frame, self.modulus)
        for row in range(basis.many_rows() - 1, -1, -1):
            cleared.add_row(over_one_bottom(Division(cleared, basis.vector(row)).rest)[0])
        return cleared
