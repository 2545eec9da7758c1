"""Rows of level sums over columns of told degrees, tables of rows, and mixtures of them."""

from relationladder.sums import gathered
from relationladder.sums import is_level
from relationladder.sums import is_sum
from relationladder.sums import level
from relationladder.sums import minus
from relationladder.sums import plus
from relationladder.sums import product_terms
from relationladder.sums import times


def is_row(ring, columns, thing):
    if not isinstance(thing, list) or len(thing) != len(columns):
        return False
    if not all([is_sum(ring, entry) and is_level(entry) for entry in thing]):
        return False
    return len(set(entry_levels(columns, thing))) <= 1


def is_table(ring, columns, thing):
    if not isinstance(thing, list):
        return False
    return all([is_row(ring, columns, row) and row_level(columns, row) is not None for row in thing])


# Nought fits into a row of any level, so it has no say here.
def entry_levels(columns, row):
    return [own + level(entry) for own, entry in zip(columns, row) if entry != []]


def row_level(columns, row):
    levels = entry_levels(columns, row)
    if levels == []:
        return None
    return levels[0]


def row_plus(ring, one, other):
    return [plus(ring, entry, second) for entry, second in zip(one, other)]


def row_minus(ring, one, other):
    return [minus(ring, entry, second) for entry, second in zip(one, other)]


def row_times(ring, row, one):
    return [times(ring, entry, one) for entry in row]


def mixture(ring, many, rows, multiples):
    return [gathered(ring, terms_at(ring, place, rows, multiples)) for place in range(many)]


def terms_at(ring, place, rows, multiples):
    terms = []
    for row, multiple in zip(rows, multiples):
        terms.extend(product_terms(ring, row[place], multiple))
    return terms
