"""How many terms of each level are under no row of a table's whole table."""

from relationladder.climbing import TableClimb
from relationladder.numbers import Fractions
from relationladder.packing import degree_frame


# Rows above the level have no say, so the climb ends there.
def count(ring, columns, table, level):
    found = 0
    for degree, number in counts_up_to(ring, columns, table, level):
        found = found + number * many_products(ring.letters(), level - degree)
    return found


def count_row(ring, columns, table):
    return counts_up_to(ring, columns, table, None)


# The number of products of a degree is a polynomial's worth from the degree 1 - letters on, and 1 - letters is the
# least such. So from the start told here on no tuple of the row differs from its polynomial, and at the level ahead the
# last tuple alone does.
def count_polynomial(ring, columns, table):
    row = count_row(ring, columns, table)
    if row == []:
        return None
    letters = ring.letters()
    powers = [0 for letter in range(letters)]
    for degree, number in row:
        powers = [own + number * more for own, more in zip(powers, product_factors(letters, degree))]
    parts = [Fractions().of(power, product_steps(letters)) for power in powers]
    return (without_last_noughts(parts), row[-1][0] + 1 - letters)


# The counts are the same in whatever order of terms the table is made whole; by degrees this is done soonest.
def counts_up_to(ring, columns, table, most):
    frame = degree_frame(ring.letters(), len(columns))
    basis = TableClimb(ring, frame, columns, table, False, most).rows.growing.basis
    found = {}
    for place, own in enumerate(columns):
        products = [frame.product(lead) for lead in basis.leads if frame.place(lead) == place]
        add_counts(found, counts_beside(ring.letters(), products), own, 1)
    return [(degree, found[degree]) for degree in sorted(found) if found[degree] != 0]


# The row of counts, as a dict, of the products that none of the told ones divides. Those in which the first letter
# stands so often, or oftener, are the ones ahead moved up, but where more of the told ones divide: there those behind
# the first letter are counted anew.
def counts_beside(letters, products):
    if letters == 0:
        return {0: 1} if products == [] else {}
    found = {}
    ahead = {}
    for often in sorted(set([0] + [product[0] for product in products])):
        own = counts_beside(letters - 1, [product[1:] for product in products if product[0] <= often])
        add_counts(found, own, often, 1)
        add_counts(found, ahead, often, -1)
        ahead = own
    return found


def add_counts(found, counts, above, factor):
    for degree, number in counts.items():
        found[degree + above] = found.get(degree + above, 0) + factor * number


def many_products(letters, degree):
    if degree < 0:
        return 0
    found = 1
    for step in range(1, letters):
        found = found * (degree + step) // step
    return found


# The numbers of the powers of the level in (level - degree + 1) * (level - degree + 2) and so on, with a factor for
# each letter but one: over the product of the steps it is how many products have the degree level - degree.
def product_factors(letters, degree):
    found = [1]
    for step in range(1, letters):
        found = [low + (step - degree) * own for low, own in zip([0] + found, found + [0])]
    return found


def product_steps(letters):
    found = 1
    for step in range(1, letters):
        found = found * step
    return found


def without_last_noughts(parts):
    found = list(parts)
    while found != [] and found[-1][0] == 0:
        found.pop()
    return found
