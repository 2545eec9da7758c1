"""Rows as vectors: tuples (tops, bottom), a dict from the keys of terms to whole numbers, all over one bottom.

With one bottom for all, most steps of reckoning need no cancelling. The bottom of a vector of rests is 1. No top is
nought, but where told. The modulus is the prime of the rests, or 0 for fractions.
"""

from relationladder.numbers import greatest_divisor
from relationladder.numbers import inverse
from relationladder.numbers import top_and_bottom


def least_multiple(one, other):
    return one // greatest_divisor(one, other) * other


def common_divisor(tops, bottom):
    common = bottom
    for top in tops.values():
        if common == 1:
            return 1
        common = greatest_divisor(top, common)
    return common


# Some tops may be nought here.
def cancelled(tops, bottom):
    common = common_divisor(tops, bottom)
    if common == 1:
        return (tops, bottom)
    return (dict([(key, top // common) for key, top in tops.items()]), bottom // common)


def vector_of(ring, frame, row):
    terms = []
    for place, entry in enumerate(row):
        for product, number in entry:
            fraction = top_and_bottom(ring.numbers(), number)
            terms.append((frame.key(place, product), fraction[0], fraction[1]))
    return over_one_bottom(terms)


# Terms are tuples (key, top, bottom), each with a bottom of its own, no key twice.
def over_one_bottom(terms):
    bottom = 1
    for key, top, under in terms:
        bottom = least_multiple(bottom, under)
    return (dict([(key, top * (bottom // under)) for key, top, under in terms]), bottom)


def row_of(ring, frame, terms):
    numbers = ring.numbers()
    row = [[] for place in range(frame.many_places())]
    for key, top, bottom in terms:
        row[frame.place(key)].append((frame.product(key), numbers.of(top, bottom)))
    return [sorted(entry, reverse=True) for entry in row]


def terms_of(vector):
    return [(key, top, vector[1]) for key, top in vector[0].items()]


def unit(frame, place):
    return ({frame.offsets[place]: 1}, 1)


# The terms by the keys of another frame of the same order of products, each at the new place of its place.
def moved(vector, frame, other, new_places):
    found = {}
    for key, top in vector[0].items():
        place = frame.place(key)
        found[key - frame.offsets[place] + other.offsets[new_places[place]]] = top
    return (found, vector[1])


def reframed(vector, frame, other):
    return moved(vector, frame, other, list(range(frame.many_places())))


# The same terms by the keys of any other frame over the same places.
def reordered(vector, frame, other):
    found = {}
    for key, top in vector[0].items():
        found[other.key(frame.place(key), frame.product(key))] = top
    return (found, vector[1])


def shifted(vector, shift):
    return (dict([(key + shift, top) for key, top in vector[0].items()]), vector[1])


# Shares are tuples (top, bottom, shift, vector): the vector times a product, as its shift, and the number top over
# bottom.
def mixed(modulus, shares):
    lowest = []
    for top, under, shift, vector in shares:
        common = greatest_divisor(top, under * vector[1])
        lowest.append((top // common, under * vector[1] // common, shift, vector[0]))
    bottom = 1
    for top, under, shift, tops in lowest:
        bottom = least_multiple(bottom, under)
    found = {}
    for top, under, shift, tops in lowest:
        factor = top * (bottom // under)
        for key, own in tops.items():
            found[key + shift] = found.get(key + shift, 0) + factor * own
    return without_noughts(modulus, found, bottom)


def without_noughts(modulus, tops, bottom):
    if modulus != 0:
        return (dict([(key, top % modulus) for key, top in tops.items() if top % modulus != 0]), 1)
    return cancelled(dict([(key, top) for key, top in tops.items() if top != 0]), bottom)


# The number, top over bottom, is not nought.
def vector_over(modulus, vector, top, bottom):
    if modulus != 0:
        return mixed(modulus, [(inverse(top, modulus), 1, 0, vector)])
    if top < 0:
        return mixed(0, [(-bottom, -top, 0, vector)])
    return mixed(0, [(bottom, top, 0, vector)])
