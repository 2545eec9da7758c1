"""Towers: a whole table in the order by degrees, its relations, the relations of these, and so on to the end.

A tower is what a ladder is made of: told by bases, one for each rung, and behind the last one a basis without rows.
"""

from relationladder.bases import Basis
from relationladder.bases import Division
from relationladder.climbing import crossing
from relationladder.climbing import TableClimb
from relationladder.climbing import with_product
from relationladder.packing import degree_frame
from relationladder.packing import DegreeFrame
from relationladder.products import degree
from relationladder.vectors import over_one_bottom
from relationladder.vectors import shifted


def tower(ring, columns, table):
    bases = [first_basis(ring, columns, table)]
    while bases[-1].many_rows() > 0:
        bases.append(relation_basis(bases[-1]))
    return bases


# The rows fall by the products of their leads as tuples are compared, whatever the order of terms: by this the leads
# of each further rung lack one letter more.
def first_basis(ring, columns, table):
    frame = degree_frame(ring.letters(), len(columns))
    made = TableClimb(ring, frame, columns, table, False).rows.growing.basis
    basis = Basis(frame, made.modulus)
    for row in sorted(range(made.many_rows()), key=lambda row: frame.product(made.leads[row]), reverse=True):
        basis.add_row(made.vector(row)[0])
    return basis


# The degrees of each stand: of the columns, and of the rows of each basis.
def tower_degrees(columns, bases):
    found = [list(columns)]
    for basis in bases:
        frame = basis.frame
        found.append([found[-1][frame.place(lead)] + degree(frame.product(lead)) for lead in basis.leads])
    return found


# A tuple (frame, vectors) for each basis but the last.
def tower_rungs(bases):
    return [(basis.frame, [basis.vector(row) for row in range(basis.many_rows())]) for basis in bases[:-1]]


# Terms over the rows of a basis are ordered by the leads that they come to, of alike ones the lesser row above.
def lead_frame(basis):
    frame = basis.frame
    rows = sorted(range(basis.many_rows()), key=lambda row: (frame.rank(basis.leads[row]), row))
    ranks = dict([(row, rank) for rank, row in enumerate(rows)])
    tops = [frame.top_product(lead) for lead in basis.leads]
    return DegreeFrame(frame.width, tops, [ranks[row] for row in range(basis.many_rows())])


# Of rows at one place each one is crossed with those behind it. The division takes the hindmost row that a term is
# under: so the lead of each relation is the row times the crossing's product, and no other term of it is under the
# lead of a relation.
def relation_basis(basis):
    frame = lead_frame(basis)
    found = Basis(frame, basis.modulus)
    for row in range(basis.many_rows()):
        for product in sorted(crossings_behind(basis, row), reverse=True):
            shift = frame.shift(product)
            division = Division(basis, shifted(basis.vector(row), shift))
            terms = [(frame.offsets[own] + move, -top, bottom) for own, move, top, bottom in division.steps]
            found.add_row(over_one_bottom([(frame.offsets[row] + shift, 1, 1)] + terms)[0])
    return found


def crossings_behind(basis, row):
    frame = basis.frame
    product = frame.product(basis.leads[row])
    found = []
    for lead, other in basis.standing[frame.place(basis.leads[row])]:
        second = frame.product(basis.leads[other])
        if second < product:
            found = with_product(found, crossing(product, second))
    return found
