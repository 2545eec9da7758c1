import fractions
import itertools
import unittest

from relationladder.errors import NoNumber
from relationladder.numbers import Fractions, Numbers, Rests
from tests.helpers import GREAT, ODD_THINGS, check_refused

FRACTIONS = Fractions()
WHOLES = [0, 1, -1, 2, -2, 3, 6, -6, 10, 12, -35, 9973, 19946, GREAT, -GREAT, 6 * GREAT, 10 ** 299 + 1, -(10 ** 299)]
PRIMES = [2, 3, 7, 9973]


def pair(fraction):
    return (fraction.numerator, fraction.denominator)


def primes_below(end):
    return [n for n in range(2, end) if all(n % d for d in range(2, int(n ** 0.5) + 1))]


class Exactly(unittest.TestCase):
    """True is equal to 1, and so a told truth would pass for a number unseen."""

    def assert_fraction(self, told, top, bottom):
        self.assertEqual(told, (top, bottom))
        self.assertEqual([type(told), type(told[0]), type(told[1])], [tuple, int, int])

    def assert_rest(self, told, rest):
        self.assertEqual(told, rest)
        self.assertIs(type(told), int)


class FractionsMade(Exactly):
    def test_stands_under_numbers(self):
        self.assertIsInstance(FRACTIONS, Numbers)

    def test_signs_and_lowest_terms(self):
        self.assert_fraction(FRACTIONS.of(6, 4), 3, 2)
        self.assert_fraction(FRACTIONS.of(-6, 4), -3, 2)
        self.assert_fraction(FRACTIONS.of(6, -4), -3, 2)
        self.assert_fraction(FRACTIONS.of(-6, -4), 3, 2)
        self.assert_fraction(FRACTIONS.of(5, -1), -5, 1)
        self.assert_fraction(FRACTIONS.of(-4, 2), -2, 1)
        self.assert_fraction(FRACTIONS.of(4, 4), 1, 1)

    def test_nought_is_always_the_same(self):
        for bottom in WHOLES[1:]:
            self.assert_fraction(FRACTIONS.of(0, bottom), 0, 1)
        self.assert_fraction(FRACTIONS.of(0), 0, 1)

    def test_bottom_left_out(self):
        for top in WHOLES:
            self.assert_fraction(FRACTIONS.of(top), top, 1)

    def test_all_signs_and_lengths(self):
        for top, bottom in itertools.product(WHOLES, WHOLES[1:]):
            self.assert_fraction(FRACTIONS.of(top, bottom), *pair(fractions.Fraction(top, bottom)))

    def test_thirty_figures(self):
        self.assert_fraction(FRACTIONS.of(6 * GREAT, -4 * GREAT), -3, 2)
        self.assert_fraction(FRACTIONS.of(GREAT, GREAT + 1), GREAT, GREAT + 1)

    def test_bottom_of_nought_is_refused(self):
        for top in WHOLES:
            check_refused(self, NoNumber, lambda: FRACTIONS.of(top, 0))

    def test_prime_is_nought(self):
        self.assert_rest(FRACTIONS.prime(), 0)


class FractionsReckoned(Exactly):
    def setUp(self):
        tops = WHOLES[:13:2] + WHOLES[13:15]
        self.some = [fractions.Fraction(top, bottom) for top in tops for bottom in (1, 4, 6, GREAT)]

    def test_four_ways(self):
        for one, other in itertools.product(self.some, self.some):
            first, second = pair(one), pair(other)
            self.assert_fraction(FRACTIONS.plus(first, second), *pair(one + other))
            self.assert_fraction(FRACTIONS.minus(first, second), *pair(one - other))
            self.assert_fraction(FRACTIONS.times(first, second), *pair(one * other))
            if other != 0:
                self.assert_fraction(FRACTIONS.over(first, second), *pair(one / other))

    def test_over_nought_is_refused(self):
        for one in self.some:
            check_refused(self, NoNumber, lambda: FRACTIONS.over(pair(one), (0, 1)))


class FractionsKnown(unittest.TestCase):
    def test_numbers(self):
        for thing in [(0, 1), (1, 1), (-1, 1), (2, 3), (-2, 3), (GREAT, GREAT + 1), (1, 2 ** 90), (-(10 ** 299), 3)]:
            self.assertIs(FRACTIONS.is_number(thing), True, thing)

    def test_things_that_are_none(self):
        things = [
            (2, 4), (0, 2), (0, 0), (0, -1), (1, 0), (1, -1), (-1, -2), (2 * GREAT, 2), (3, 3), (-6, 4),
            (True, 1), (1, True), (False, 1), (True, True), [0, 1], [1, 2], (1,), (1, 2, 1), (), 0, 1, 5, GREAT,
            ((1, 2), 1), (1, (2,)), (1, [2]), ("1", 2), (1, "2"), (None, 1), (1, None), "1/2", "1",
        ]
        for thing in things + ODD_THINGS:
            self.assertIs(FRACTIONS.is_number(thing), False, thing)


class RestsMade(Exactly):
    def test_stands_under_numbers(self):
        self.assertIsInstance(Rests(2), Numbers)

    def test_just_the_primes_to_the_last(self):
        primes = primes_below(9974)
        self.assertEqual(primes[-1], 9973)
        taken = []
        for whole in range(-10, 10100):
            try:
                self.assert_rest(Rests(whole).prime(), whole)
                taken.append(whole)
            except NoNumber:
                pass
        self.assertEqual(taken, primes)

    def test_what_is_no_such_prime_is_refused(self):
        further = [n for n in primes_below(10400) if n > 9973]
        for whole in [0, 1, -1, -2, -7, 4, 9, 91, 9409, 9971, 10 ** 29 + 319, GREAT, -GREAT, 2 ** 127 - 1] + further:
            check_refused(self, NoNumber, lambda: Rests(whole))

    def test_what_is_left(self):
        for prime in PRIMES:
            for top in WHOLES:
                self.assert_rest(Rests(prime).of(top), top % prime)

    def test_first_over_second(self):
        for prime in PRIMES:
            for top, bottom in itertools.product(WHOLES, WHOLES):
                if bottom % prime != 0:
                    self.assert_rest(Rests(prime).of(top, bottom), top * pow(bottom, -1, prime) % prime)

    def test_second_that_the_prime_divides_is_refused(self):
        for prime in PRIMES:
            for bottom in [0, prime, -prime, prime * GREAT, -4 * prime]:
                for top in [0, 1, -3, prime, GREAT]:
                    check_refused(self, NoNumber, lambda: Rests(prime).of(top, bottom))


class RestsReckoned(Exactly):
    def check_four_ways(self, prime, one, other):
        rests = Rests(prime)
        self.assert_rest(rests.plus(one, other), (one + other) % prime)
        self.assert_rest(rests.minus(one, other), (one - other) % prime)
        self.assert_rest(rests.times(one, other), one * other % prime)
        if other == 0:
            check_refused(self, NoNumber, lambda: rests.over(one, other))
        else:
            self.assert_rest(rests.over(one, other), one * pow(other, -1, prime) % prime)

    def test_all_small_ones(self):
        for prime in [2, 3, 5, 7, 11]:
            for one, other in itertools.product(range(prime), range(prime)):
                self.check_four_ways(prime, one, other)

    def test_the_greatest_prime(self):
        for one, other in itertools.product([0, 1, 2, 4986, 4987, 9971, 9972], list(range(0, 9973, 97)) + [9972]):
            self.check_four_ways(9973, one, other)


class RestsKnown(unittest.TestCase):
    def test_numbers(self):
        for prime in PRIMES:
            for thing in [0, 1, prime // 2, prime - 1]:
                self.assertIs(Rests(prime).is_number(thing), True, thing)

    def test_things_that_are_none(self):
        for prime in PRIMES:
            things = [prime, prime + 1, -1, -prime, GREAT, (0, 1), (1, 1), (1,), [1], [], "1"]
            for thing in things + ODD_THINGS:
                self.assertIs(Rests(prime).is_number(thing), False, thing)
