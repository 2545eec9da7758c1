"""The relations of a table's rows."""

from relationladder.climbing import TableClimb
from relationladder.vectors import row_of


def relations(ring, columns, table):
    climb = TableClimb(ring, columns, table, True)
    basis = climb.relations.growing.basis
    return [row_of(ring, basis.frame, kept_terms(basis, row)) for row in climb.needed]


# As the basis keeps the row, of fractions without bottoms: such numbers are the smaller ones.
def kept_terms(basis, row):
    return [(key, top, 1) for key, top in basis.vector(row)[0].items()]
