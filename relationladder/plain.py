"""The plain road: ranks of lists of numbers, and counts and degrees by ranks alone, without whole tables."""

from relationladder.alike import Alike
from relationladder.alike import choices
from relationladder.numbers import top_and_bottom
from relationladder.vectors import least_multiple


# Each list is cleared at the places of those kept ahead of it, and kept itself where anything is left.
#
# What stands in a list cleared so, by whole numbers, is a determinant of numbers handed in. So the number at the place
# ahead goes into it, and no other divisors need be sought.
def rank(numbers, lists):
    kept_lists = []
    for own in lists:
        left = whole_numbers(numbers, own)
        divisor = 1
        for place, other in kept_lists:
            left = cleared_at(numbers.prime(), place, left, other, divisor)
            divisor = other[place]
        places = [place for place, whole in enumerate(left) if whole != 0]
        if places != []:
            kept_lists.append((places[0], left))
    return len(kept_lists)


# The list times a number, which changes no rank.
def whole_numbers(numbers, own):
    fractions = [top_and_bottom(numbers, number) for number in own]
    bottom = 1
    for fraction in fractions:
        bottom = least_multiple(bottom, fraction[1])
    return [fraction[0] * (bottom // fraction[1]) for fraction in fractions]


def cleared_at(prime, place, left, other, divisor):
    first = other[place]
    factor = left[place]
    found = [first * own - factor * taken for own, taken in zip(left, other)]
    if prime != 0:
        return [whole % prime for whole in found]
    return [whole // divisor for whole in found]


def plain_count(ring, columns, table, level):
    return len(Alike(ring, columns, table, level).keys_at(level))


def plain_degrees(ring, columns, table, most):
    alike = Alike(ring, columns, table, most)
    letters = ring.letters()
    found = [[] for many in range(letters + 1)]
    for level in range(min(columns, default=most + 1), most + 1):
        for many in range(letters + 1):
            there_are = len(choices(letters, many)) * len(alike.keys_at(level - many))
            led_to_nought = there_are - alike.rank_at(level, many)
            often = led_to_nought - alike.rank_at(level, many + 1)
            found[many].extend([level for time in range(often)])
    return found
