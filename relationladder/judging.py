"""Rows judged by a table: mixtures told with their multiples, others with weights that set them apart."""

from relationladder.bases import Division
from relationladder.climbing import TableClimb
from relationladder.leads import term_height
from relationladder.packing import degree_frame
from relationladder.products import all_products
from relationladder.rows import row_level
from relationladder.vectors import row_of
from relationladder.vectors import terms_of
from relationladder.vectors import vector_of


def is_mixture(ring, columns, table, row):
    level = row_level(columns, row)
    if level is None:
        return True
    frame = degree_frame(ring.letters(), len(columns))
    basis = TableClimb(ring, frame, columns, table, False, level).rows.growing.basis
    return Division(basis, vector_of(ring, frame, row)).rest == []


# Rows above the row's level have no say, so the climbs end there.
def judged(ring, columns, table, row):
    level = row_level(columns, row)
    if level is None:
        return ("in", [[] for own in table])
    frame = degree_frame(ring.letters(), len(columns))
    vector = vector_of(ring, frame, row)
    basis = TableClimb(ring, frame, columns, table, False, level).rows.growing.basis
    division = Division(basis, vector)
    if division.rest != []:
        return ("out", weights(ring, columns, level, basis, division.rest[0][0]))
    # Ways cost far more than the judgement itself: they are sought only where they are to be told.
    way = TableClimb(ring, frame, columns, table, True, level).way_to(vector, level)
    return ("in", row_of(ring, degree_frame(ring.letters(), len(table)), terms_of(way)))


# A term's weight is the number that its rest has at the marked term, which is under no row: so what leaves nothing is
# worth nought. Terms beneath the marked one leave nothing there. A term under a row is worth as much as the row's other
# terms, taken off; these lie beneath it, so their worth is known by then.
def weights(ring, columns, level, basis, marked):
    numbers = ring.numbers()
    worth = {marked: numbers.of(1)}
    for key in keys_above(ring, columns, level, basis.frame, marked):
        row = basis.reducer(key)
        if row is not None:
            own = tail_worth(numbers, worth, basis, row, key - basis.leads[row])
            if own != numbers.of(0):
                worth[key] = numbers.over(numbers.minus(numbers.of(0), own), numbers.of(basis.firsts[row]))
    found = [(basis.frame.place(key), basis.frame.product(key), worth[key]) for key in worth]
    return sorted(found, key=lambda weight: term_height(weight[0], weight[1]), reverse=True)


def tail_worth(numbers, worth, basis, row, shift):
    found = numbers.of(0)
    for key, top in basis.tails[row]:
        if key + shift in worth:
            found = numbers.plus(found, numbers.times(numbers.of(top), worth[key + shift]))
    return found


def keys_above(ring, columns, level, frame, marked):
    found = []
    for place, own in enumerate(columns):
        if own <= level:
            products = all_products(ring.letters(), level - own)
            found.extend([frame.key(place, product) for product in products])
    return sorted([key for key in found if key > marked])
