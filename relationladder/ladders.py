"""Ladders: a whole table, its relations, the relations of these, and so on to the end."""

from relationladder.bases import Division
from relationladder.errors import NoRelation
from relationladder.errors import NoRung
from relationladder.gluing import Glue
from relationladder.packing import column_frame
from relationladder.packing import degree_frame
from relationladder.products import degree
from relationladder.striking import Striking
from relationladder.towers import tower
from relationladder.towers import tower_degrees
from relationladder.towers import tower_rungs
from relationladder.vectors import mixed
from relationladder.vectors import moved
from relationladder.vectors import over_one_bottom
from relationladder.vectors import reframed
from relationladder.vectors import reordered
from relationladder.vectors import row_of
from relationladder.vectors import terms_of
from relationladder.vectors import vector_of
from relationladder.wholes import whole_vectors


# The first rung is the whole table, the others are those of a thin tower. The second one is told over the whole
# table's rows, and ahead of the tower's it has a row for each row of the whole table that is a mixture of the others.
#
# No row of a rung from the third one on has anything at those places ahead.
class Ladder:
    def __init__(self, ring, columns, table):
        self.own_ring = ring
        self.bases = tower(ring, columns, table)
        degrees = tower_degrees(columns, self.bases)
        rungs = tower_rungs(self.bases)
        self.thin = Striking(ring, rungs, degrees[:-1], 1)
        self.stand_degrees = [list(columns)]
        self.own_rungs = []
        self.rung_tables = None
        if rungs != []:
            vectors = self.whole_table(table)
            self.add_rung(self.bases[0].frame, vectors)
            self.glue = Glue(ring, self.bases[0], self.thin, degrees[1], vectors)
            self.add_rung(self.glue.table_frame, self.second_rung())
            self.add_thin_rungs()

    def ring(self):
        return self.own_ring

    def columns(self):
        return list(self.stand_degrees[0])

    def many(self):
        return len(self.own_rungs)

    # Made once, since to cancel all fractions takes its time, and told as copies.
    def rungs(self):
        if self.rung_tables is None:
            self.rung_tables = [self.rung_table(rung) for rung in self.own_rungs]
        found = []
        for degrees, table in zip(self.stand_degrees, self.rung_tables):
            found.append((list(degrees), [[list(entry) for entry in row] for row in table]))
        return found

    def rung_table(self, rung):
        return [row_of(self.own_ring, rung[0], terms_of(vector)) for vector in rung[1]]

    # The rows of the last rung have no relation but nought.
    def told(self, k, row):
        if k < 1 or k > self.many():
            raise NoRung("the ladder has no such rung")
        if k == self.many():
            if any([entry != [] for entry in row]):
                raise NoRelation("the row does not mix the rung's rows to nought")
            return []
        if k == 1:
            return [list(row[own]) for own in self.glue.left] + self.lifted(1, self.thin_of_whole(row))
        return self.lifted(k, self.thin_of_row(k, row))

    # Of a mixture of the first rung's rows: multiples for those of them alone that the thin tower is glued to.
    def glued_multiples(self, row):
        basis = self.bases[0]
        way = self.glue.over_tower(basis, vector_of(self.own_ring, basis.frame, row))
        vector = self.glue.over_table(self.thin.there(1, way))
        return row_of(self.own_ring, self.glue.table_frame, terms_of(vector))

    def add_rung(self, frame, vectors):
        if vectors != []:
            degrees = self.stand_degrees[-1]
            self.own_rungs.append((frame, vectors))
            self.stand_degrees.append([vector_level(degrees, frame, vector) for vector in vectors])

    def add_thin_rungs(self):
        stand = 3
        while self.thin_places(stand) != []:
            self.add_rung(self.rung_frame(stand - 1), self.thin_rung(stand))
            stand = stand + 1

    def whole_table(self, table):
        columns = self.stand_degrees[0]
        frame = column_frame(self.own_ring.letters(), len(columns))
        vectors = whole_vectors(self.own_ring, columns, table)
        return [reordered(vector, frame, self.bases[0].frame) for vector in vectors]

    def second_rung(self):
        relations = [self.glue.relation_of(row) for row in self.glue.left]
        return relations + [self.glue.over_table(vector) for vector in self.thin_vectors(2)]

    def thin_rung(self, stand):
        frame = self.thin.frames[stand - 1]
        numbers = self.rung_numbers(stand - 1)
        return [moved(vector, frame, self.rung_frame(stand - 1), numbers) for vector in self.thin_vectors(stand)]

    def thin_vectors(self, stand):
        return [self.thin.thin_row(stand, place) for place in self.thin_places(stand)]

    def thin_places(self, stand):
        if stand < len(self.thin.kept_places):
            return self.thin.kept_places[stand]
        return []

    # Of a stand from 2 on, by which number a kept place of the tower stands among the rung's rows.
    def rung_numbers(self, stand):
        ahead = len(self.glue.left) if stand == 2 else 0
        return dict([(place, ahead + number) for number, place in enumerate(self.thin_places(stand))])

    def rung_frame(self, stand):
        return degree_frame(self.own_ring.letters(), len(self.stand_degrees[stand]))

    def thin_of_whole(self, row):
        frame = self.glue.table_frame
        vector = vector_of(self.own_ring, frame, row)
        shares = []
        for key, top in vector[0].items():
            place = frame.place(key)
            shares.append((top, vector[1], key - frame.offsets[place], self.glue.ways[place]))
        return mixed(self.bases[0].modulus, shares)

    def thin_of_row(self, stand, row):
        frame = self.rung_frame(stand)
        vector = vector_of(self.own_ring, frame, row)
        places = dict([(number, place) for place, number in self.rung_numbers(stand).items()])
        if any([frame.place(key) not in places for key in vector[0]]):
            raise NoRelation("the row does not mix the rung's rows to nought")
        return moved(vector, frame, self.thin.frames[stand], places)

    # What the thin tower's rows beneath are mixed by is led into the tower, told there by the next rung, and led back.
    def lifted(self, stand, vector):
        basis = self.bases[stand]
        division = Division(basis, reframed(self.tower_vector(stand, vector), self.thin.frames[stand], basis.frame))
        if division.rest != []:
            raise NoRelation("the row does not mix the rung's rows to nought")
        places = self.thin_places(stand + 1)
        if places == []:
            return []
        frame = self.thin.frames[stand + 1]
        terms = [(frame.offsets[row] + shift, top, bottom) for row, shift, top, bottom in division.steps]
        thin_vector = self.thin.there(stand + 1, over_one_bottom(terms))
        told_row = row_of(self.own_ring, frame, terms_of(thin_vector))
        return [told_row[place] for place in places]

    def tower_vector(self, stand, vector):
        frame = self.thin.frames[stand]
        known = {}
        shares = []
        for key, top in vector[0].items():
            place = frame.place(key)
            if place not in known:
                known[place] = self.thin.back(stand, place)
            shares.append((top, vector[1], key - frame.offsets[place], known[place]))
        return mixed(self.bases[0].modulus, shares)


def vector_level(degrees, frame, vector):
    lead = max(vector[0])
    return degrees[frame.place(lead)] + degree(frame.product(lead))
