"""Whole tables, and the ways in which their rows are mixtures of the table's."""

from relationladder.climbing import TableClimb
from relationladder.packing import column_frame
from relationladder.packing import degree_frame
from relationladder.rows import row_level
from relationladder.vectors import reordered
from relationladder.vectors import row_of
from relationladder.vectors import terms_of


def whole(ring, columns, table):
    frame = column_frame(ring.letters(), len(columns))
    return [row_of(ring, frame, terms_of(vector)) for vector in whole_vectors(ring, columns, table)]


# Over the columns' frame, falling by their leads.
def whole_vectors(ring, columns, table):
    frame = column_frame(ring.letters(), len(columns))
    basis = TableClimb(ring, frame, columns, table, False).rows.growing.basis
    falling = sorted(range(basis.many_rows()), key=lambda row: basis.leads[row], reverse=True)
    return [basis.vector(row) for row in falling]


# The ways lead over another whole table, in the order by degrees.
def whole_with(ring, columns, table):
    frame = column_frame(ring.letters(), len(columns))
    by_degree = degree_frame(ring.letters(), len(columns))
    over_rows = degree_frame(ring.letters(), len(table))
    climb = TableClimb(ring, by_degree, columns, table, True)
    told = []
    ways = []
    for vector in whole_vectors(ring, columns, table):
        row = row_of(ring, frame, terms_of(vector))
        way = climb.way_to(reordered(vector, frame, by_degree), row_level(columns, row))
        told.append(row)
        ways.append(row_of(ring, over_rows, terms_of(way)))
    return (told, ways)


# In each order of terms there is just one whole table with the same mixtures; that of the order by degrees is found
# soonest.
def same_whole(ring, columns, one, other):
    frame = degree_frame(ring.letters(), len(columns))
    bases = [TableClimb(ring, frame, columns, table, False).rows.growing.basis for table in (one, other)]
    rows = [dict([(lead, basis.vector(row)) for row, lead in enumerate(basis.leads)]) for basis in bases]
    return rows[0] == rows[1]
