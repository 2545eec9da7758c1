"""Rows judged by a table: mixtures told with their multiples, others with weights that set them apart."""

from relationladder.bases import Division
from relationladder.climbing import TableClimb
from relationladder.packing import column_frame
from relationladder.products import all_products
from relationladder.rows import row_level
from relationladder.vectors import mixed
from relationladder.vectors import row_of
from relationladder.vectors import terms_of
from relationladder.vectors import vector_of


# Rows above the row's level have no say, so the climb ends there.
def judged(ring, columns, table, row):
    level = row_level(columns, row)
    if level is None:
        return ("in", [[] for own in table])
    basis = TableClimb(ring, columns, table, False, level).rows.growing.basis
    division = Division(basis, vector_of(ring, basis.frame, row))
    if division.rest == []:
        return ("in", multiples_to(ring, columns, table, row, level))
    return ("out", weights(ring, columns, level, basis, division.rest[0][0]))


# Ways cost far more than the judgement itself: they are sought only where they are to be told.
def multiples_to(ring, columns, table, row, level):
    growing = TableClimb(ring, columns, table, True, level).rows.growing
    division = Division(growing.basis, vector_of(ring, growing.basis.frame, row))
    shares = [(top, bottom, shift, growing.ways[own]) for own, shift, top, bottom in division.steps]
    over_rows = column_frame(ring.letters(), len(table))
    return row_of(ring, over_rows, terms_of(mixed(ring.numbers().prime(), shares)))


# A term's weight is the number that its rest has at the marked term, which is under no row: so what leaves nothing is
# worth nought. Terms beneath the marked one leave nothing there. A term under a row is worth as much as the row's other
# terms, taken off; these lie beneath it, so their worth is known by then.
def weights(ring, columns, level, basis, marked):
    numbers = ring.numbers()
    worth = {marked: numbers.of(1)}
    for key in keys_above(ring, columns, level, basis.frame, marked):
        row = basis.reducer(key)
        if row is not None:
            own = tail_worth(numbers, worth, basis, row, key - basis.leads[row])
            if own != numbers.of(0):
                worth[key] = numbers.over(numbers.minus(numbers.of(0), own), numbers.of(basis.firsts[row]))
    falling = sorted(worth, reverse=True)
    return [(basis.frame.place(key), basis.frame.product(key), worth[key]) for key in falling]


def tail_worth(numbers, worth, basis, row, shift):
    found = numbers.of(0)
    for key, top in basis.tails[row]:
        if key + shift in worth:
            found = numbers.plus(found, numbers.times(numbers.of(top), worth[key + shift]))
    return found


def keys_above(ring, columns, level, frame, marked):
    found = []
    for place, own in enumerate(columns):
        if own <= level:
            products = all_products(ring.letters(), level - own)
            found.extend([frame.key(place, product) for product in products])
    return sorted([key for key in found if key > marked])
