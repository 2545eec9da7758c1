"""Ladders: a whole table, its relations, the relations of these, and so on to the end."""

from relationladder.bases import Basis
from relationladder.bases import Division
from relationladder.climbing import crossing
from relationladder.climbing import TableClimb
from relationladder.climbing import with_product
from relationladder.errors import NoRelation
from relationladder.errors import NoRung
from relationladder.packing import column_frame
from relationladder.packing import Frame
from relationladder.packing import packed
from relationladder.products import degree
from relationladder.vectors import over_one_bottom
from relationladder.vectors import row_of
from relationladder.vectors import shifted
from relationladder.vectors import terms_of
from relationladder.vectors import vector_of
from relationladder.wholes import falling_rows


# The basis of each rung, and behind the last one a basis without rows, which ends the ladder.
class Ladder:
    def __init__(self, ring, columns, table):
        self.own_ring = ring
        self.bases = [first_basis(ring, columns, table)]
        self.stand_degrees = [list(columns)]
        while self.bases[-1].many_rows() > 0:
            self.stand_degrees.append(lead_levels(self.bases[-1], self.stand_degrees[-1]))
            self.bases.append(relation_basis(self.bases[-1]))

    def ring(self):
        return self.own_ring

    def columns(self):
        return list(self.stand_degrees[0])

    def many(self):
        return len(self.bases) - 1

    def rungs(self):
        return [(list(self.stand_degrees[number]), self.rung_table(number)) for number in range(self.many())]

    def rung_table(self, number):
        basis = self.bases[number]
        vectors = [basis.vector(row) for row in range(basis.many_rows())]
        return [row_of(self.own_ring, basis.frame, terms_of(vector)) for vector in vectors]

    def told(self, k, row):
        if k < 1 or k > self.many():
            raise NoRung("the ladder has no such rung")
        basis = self.bases[k]
        division = Division(basis, vector_of(self.own_ring, basis.frame, row))
        if division.rest != []:
            raise NoRelation("the row does not mix the rung's rows to nought")
        over_rows = column_frame(self.own_ring.letters(), basis.many_rows())
        terms = [(over_rows.offsets[own] + shift, top, bottom) for own, shift, top, bottom in division.steps]
        return row_of(self.own_ring, over_rows, terms)


def first_basis(ring, columns, table):
    made = TableClimb(ring, columns, table, False).rows.growing.basis
    basis = Basis(made.frame, made.modulus)
    for row in falling_rows(made):
        basis.add_row(made.vector(row)[0])
    return basis


def lead_levels(basis, degrees):
    frame = basis.frame
    return [degrees[frame.place(lead)] + degree(frame.product(lead)) for lead in basis.leads]


# Terms over the rows of a basis are ordered by the leads that they come to, of alike ones the lesser row above.
def lead_frame(basis):
    frame = basis.frame
    rows = sorted(range(basis.many_rows()), key=lambda row: (frame.rank(basis.leads[row]), row))
    ranks = dict([(row, rank) for rank, row in enumerate(rows)])
    tops = [frame.top_product(lead) for lead in basis.leads]
    return Frame(frame.width, tops, [ranks[row] for row in range(basis.many_rows())])


# Of rows at one place, falling, each one is crossed with those behind it. The division takes the hindmost row that a
# term is under: so the lead of each relation is the row times the crossing's product, no other term of it is under
# the lead of a relation, and these leads lack one letter more than those of the basis.
def relation_basis(basis):
    frame = lead_frame(basis)
    found = Basis(frame, basis.modulus)
    for row in range(basis.many_rows()):
        for product in sorted(crossings_behind(basis, row), reverse=True):
            shift = packed(product)
            division = Division(basis, shifted(basis.vector(row), shift))
            terms = [(frame.offsets[own] + move, -top, bottom) for own, move, top, bottom in division.steps]
            found.add_row(over_one_bottom([(frame.offsets[row] + shift, 1, 1)] + terms)[0])
    return found


def crossings_behind(basis, row):
    frame = basis.frame
    product = frame.product(basis.leads[row])
    found = []
    for lead, other in basis.standing[frame.place(basis.leads[row])]:
        second = frame.product(basis.leads[other])
        if second < product:
            found = with_product(found, crossing(product, second))
    return found
