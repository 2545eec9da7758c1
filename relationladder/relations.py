"""The relations of a table's rows."""

from relationladder.climbing import TableClimb
from relationladder.packing import degree_frame
from relationladder.vectors import row_of
from relationladder.vectors import terms_of


def relations(ring, columns, table):
    frame = degree_frame(ring.letters(), len(columns))
    climb = TableClimb(ring, frame, columns, table, True)
    basis = climb.relations.growing.basis
    return [row_of(ring, basis.frame, terms_of(basis.vector(row))) for row in climb.needed]
