"""The two kinds of exact numbers: fractions, and rests by a prime."""

from relationladder.errors import NoNumber
from relationladder.things import is_pair
from relationladder.things import is_whole_number

LEAST_PRIME = 2
GREATEST_PRIME = 9973


class Numbers:
    pass


class Fractions(Numbers):
    def prime(self):
        return 0

    def is_number(self, thing):
        if not is_pair(thing) or not is_whole_number(thing[0]) or not is_whole_number(thing[1]):
            return False
        return thing[1] >= 1 and greatest_divisor(thing[0], thing[1]) == 1

    def of(self, top, bottom=1):
        if bottom == 0:
            raise NoNumber("a fraction's bottom is not nought")
        # Most numbers that are met are whole: nothing is to be cancelled there.
        if bottom == 1:
            return (top, 1)
        common = greatest_divisor(top, bottom)
        if bottom < 0:
            common = -common
        return (top // common, bottom // common)

    def plus(self, one, other):
        return self.of(one[0] * other[1] + other[0] * one[1], one[1] * other[1])

    def minus(self, one, other):
        return self.of(one[0] * other[1] - other[0] * one[1], one[1] * other[1])

    def times(self, one, other):
        return self.of(one[0] * other[0], one[1] * other[1])

    def over(self, one, other):
        return self.of(one[0] * other[1], one[1] * other[0])


class Rests(Numbers):
    def __init__(self, prime):
        if not is_prime(prime):
            raise NoNumber("rests are by a prime from 2 to 9973")
        self.modulus = prime

    def prime(self):
        return self.modulus

    def is_number(self, thing):
        return is_whole_number(thing) and 0 <= thing and thing < self.modulus

    def of(self, top, bottom=1):
        if bottom % self.modulus == 0:
            raise NoNumber("the prime does not divide what a rest is taken over")
        return top * inverse(bottom, self.modulus) % self.modulus

    def plus(self, one, other):
        return (one + other) % self.modulus

    def minus(self, one, other):
        return (one - other) % self.modulus

    def times(self, one, other):
        return one * other % self.modulus

    def over(self, one, other):
        return self.of(one, other)


# A number of either kind as a top and a bottom.
def top_and_bottom(numbers, number):
    if numbers.prime() == 0:
        return number
    return (number, 1)


# Tuples (top, bottom), perhaps not in lowest terms.
def fraction_plus(one, other):
    if one[1] == other[1]:
        return (one[0] + other[0], one[1])
    common = greatest_divisor(one[1], other[1])
    share = other[1] // common
    return (one[0] * share + other[0] * (one[1] // common), one[1] * share)


# The range is asked first: trying divisors of a number of thirty figures would not end.
def is_prime(whole):
    if whole < LEAST_PRIME or whole > GREATEST_PRIME:
        return False
    divisor = 2
    while divisor * divisor <= whole:
        if whole % divisor == 0:
            return False
        divisor = divisor + 1
    return True


def greatest_divisor(one, other):
    first = abs(one)
    second = abs(other)
    while second != 0:
        rest = first % second
        first = second
        second = rest
    return first


# Euclid's steps keep this true: each rest is its share times the whole number, by the prime.
def inverse(whole, prime):
    rest = prime
    share = 0
    following = whole % prime
    following_share = 1
    while following != 1:
        often = rest // following
        further = rest - often * following
        further_share = share - often * following_share
        rest = following
        share = following_share
        following = further
        following_share = further_share
    return following_share % prime
