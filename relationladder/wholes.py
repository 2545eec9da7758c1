"""Whole tables, and the ways in which their rows are mixtures of the table's."""

from relationladder.climbing import TableClimb
from relationladder.packing import column_frame
from relationladder.vectors import row_of
from relationladder.vectors import terms_of


def whole(ring, columns, table):
    return told_rows(ring, TableClimb(ring, columns, table, False).rows.growing.basis)


def whole_with(ring, columns, table):
    growing = TableClimb(ring, columns, table, True).rows.growing
    over_rows = column_frame(ring.letters(), len(table))
    ways = [growing.ways[row] for row in falling_rows(growing.basis)]
    return (told_rows(ring, growing.basis), [row_of(ring, over_rows, terms_of(way)) for way in ways])


def told_rows(ring, basis):
    vectors = [basis.vector(row) for row in falling_rows(basis)]
    return [row_of(ring, basis.frame, terms_of(vector)) for vector in vectors]


def falling_rows(basis):
    return sorted(range(basis.many_rows()), key=lambda row: basis.leads[row], reverse=True)
