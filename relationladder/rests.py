"""The rest of a row by a table."""

from relationladder.bases import Basis
from relationladder.bases import Division
from relationladder.leads import lead
from relationladder.numbers import top_and_bottom
from relationladder.packing import column_frame
from relationladder.vectors import row_of
from relationladder.vectors import vector_of


def rest(ring, columns, table, row):
    return rest_by(ring, columns, table, table_basis(ring, columns, table), row)


def table_basis(ring, columns, table):
    frame = column_frame(ring.letters(), len(columns))
    basis = Basis(frame, ring.numbers().prime())
    for own in table:
        basis.add_row(vector_of(ring, frame, own)[0])
    return basis


# With the table's basis, so that it is made once where many rows are asked.
def rest_by(ring, columns, table, basis, row):
    division = Division(basis, vector_of(ring, basis.frame, row))
    return (multiples_of(ring, columns, table, division.steps), row_of(ring, basis.frame, division.rest))


# The steps tell of rows with the lead number 1, the table's rows may have another one.
def multiples_of(ring, columns, table, steps):
    over_rows = column_frame(ring.letters(), len(table))
    terms = []
    for number, shift, top, bottom in steps:
        first = top_and_bottom(ring.numbers(), lead(columns, table[number])[2])
        terms.append((over_rows.offsets[number] + shift, top * first[1], bottom * first[0]))
    return row_of(ring, over_rows, terms)
