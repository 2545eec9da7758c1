"""Rings, and sums of parts (product, number), falling by the order of products."""

from relationladder.errors import NoRing
from relationladder.numbers import fraction_plus
from relationladder.numbers import top_and_bottom
from relationladder.products import degree
from relationladder.products import height
from relationladder.products import is_above
from relationladder.products import is_product
from relationladder.products import product_times
from relationladder.things import is_pair

MOST_LETTERS = 4


class Ring:
    def __init__(self, numbers, letters):
        if letters < 1 or letters > MOST_LETTERS:
            raise NoRing("a ring has one to four letters")
        self.kind = numbers
        self.width = letters

    def numbers(self):
        return self.kind

    def letters(self):
        return self.width


def is_sum(ring, thing):
    if not isinstance(thing, list) or not all([is_part(ring, part) for part in thing]):
        return False
    return all([is_above(part[0], behind[0]) for part, behind in zip(thing, thing[1:])])


def is_part(ring, thing):
    if not is_pair(thing) or not is_product(thing[0], ring.letters()):
        return False
    return ring.numbers().is_number(thing[1]) and thing[1] != ring.numbers().of(0)


def sum_of(ring, parts):
    numbers = ring.numbers()
    found = {}
    for product, number in parts:
        found[product] = numbers.plus(found[product], number) if product in found else number
    nought = numbers.of(0)
    falling = sorted(found, key=height, reverse=True)
    return [(product, found[product]) for product in falling if found[product] != nought]


def plus(ring, one, other):
    return sum_of(ring, one + other)


def minus(ring, one, other):
    return plus(ring, one, scaled(ring, other, ring.numbers().of(-1)))


def times(ring, one, other):
    return gathered(ring, product_terms(ring, one, other))


# Terms are tuples (product, top, bottom), the fractions perhaps not in lowest terms: to cancel once, where all is
# added, spares most of the work.
def product_terms(ring, one, other):
    terms = []
    for product, number in one:
        first = top_and_bottom(ring.numbers(), number)
        for second, factor in other:
            fraction = top_and_bottom(ring.numbers(), factor)
            terms.append((product_times(product, second), first[0] * fraction[0], first[1] * fraction[1]))
    return terms


def gathered(ring, terms):
    found = {}
    for product, top, bottom in terms:
        new = (top, bottom)
        found[product] = fraction_plus(found[product], new) if product in found else new
    numbers = ring.numbers()
    return sum_of(ring, [(product, numbers.of(fraction[0], fraction[1])) for product, fraction in found.items()])


# But for nought no number times another one comes to nought, so every part stays, and stays in its place.
def scaled(ring, one, number):
    numbers = ring.numbers()
    if number == numbers.of(0):
        return []
    return [(product, numbers.times(own, number)) for product, own in one]


# The degrees of a sum's parts fall, so the first one and the last one tell of all.
def is_level(one):
    return one == [] or degree(one[0][0]) == degree(one[-1][0])


def level(one):
    if one == []:
        return None
    return degree(one[0][0])
