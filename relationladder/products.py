"""Products of letters: tuples that tell how often each letter stands there."""

from relationladder.errors import NoPart
from relationladder.things import is_whole_number


def is_product(thing, letters):
    if not isinstance(thing, tuple) or len(thing) != letters:
        return False
    return all([is_whole_number(often) and often >= 0 for often in thing])


def product_times(one, other):
    return tuple([first + second for first, second in zip(one, other)])


def divides(one, other):
    return all([first <= second for first, second in zip(one, other)])


def product_over(one, other):
    if not divides(other, one):
        raise NoPart("the second product does not divide the first one")
    return tuple([first - second for first, second in zip(one, other)])


def least_common(one, other):
    return tuple([max(first, second) for first, second in zip(one, other)])


def degree(one):
    return sum(one)


# What stands higher in the order of products is greater here.
def height(one):
    return (degree(one), one)


def is_above(one, other):
    return height(one) > height(other)


def all_products(letters, degree):
    if letters == 1:
        return [(degree,)]
    found = []
    for left in range(degree + 1):
        for behind in all_products(letters - 1, left):
            found.append((degree - left,) + behind)
    return found
