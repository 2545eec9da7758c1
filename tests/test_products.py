import itertools
import unittest

from relationladder.errors import NoPart
from relationladder.products import (
    all_products, degree, divides, is_above, is_product, least_common, product_over, product_times,
)
from tests.helpers import GREAT, ODD_THINGS, check_refused

LETTERS = [1, 2, 3, 4]


def some_products(letters):
    most = {1: 24, 2: 5, 3: 2, 4: 2}[letters]
    return list(itertools.product(range(most + 1), repeat=letters)) + [(24,) + (0,) * (letters - 1)]


def pairs():
    for letters in LETTERS:
        yield from itertools.product(some_products(letters), repeat=2)


class Known(unittest.TestCase):
    def test_products(self):
        for letters in LETTERS:
            for thing in some_products(letters) + [(GREAT,) * letters]:
                self.assertIs(is_product(thing, letters), True, thing)

    def test_a_part_more_or_less(self):
        for letters in LETTERS:
            for length in [0, 1, 2, 3, 4, 5]:
                self.assertIs(is_product((1,) * length, letters), length == letters)

    def test_one_wrong_part(self):
        for letters in LETTERS:
            for place in range(letters):
                for wrong in [-1, -GREAT, True, False, None, "1", "x", (1,), [1], [], ()]:
                    thing = (0,) * place + (wrong,) + (2,) * (letters - 1 - place)
                    self.assertIs(is_product(thing, letters), False, thing)

    def test_other_things(self):
        for letters in LETTERS:
            for thing in ODD_THINGS + [0, 1, 2, GREAT]:
                self.assertIs(is_product(thing, letters), False, thing)
            for thing in [[0] * letters, "0" * letters, [(0,) * letters], ((0,) * letters,)]:
                self.assertIs(is_product(thing, letters), False, thing)


class Reckoned(unittest.TestCase):
    def test_degree(self):
        self.assertEqual([degree((0, 0)), degree((3,)), degree((1, 2, 0, 4)), degree((24, 0, 0))], [0, 3, 7, 24])
        for one, other in pairs():
            self.assertEqual(degree(product_times(one, other)), degree(one) + degree(other))

    def test_times(self):
        self.assertEqual(product_times((1, 0, 2), (3, 1, 0)), (4, 1, 2))
        for one, other in pairs():
            told = product_times(one, other)
            self.assertIs(is_product(told, len(one)), True)
            self.assertEqual(list(told), [one[k] + other[k] for k in range(len(one))])

    def test_least_common(self):
        self.assertEqual(least_common((1, 0, 2, 0), (0, 3, 2, 0)), (1, 3, 2, 0))
        for one, other in pairs():
            told = least_common(one, other)
            self.assertIs(is_product(told, len(one)), True)
            self.assertEqual(list(told), [max(one[k], other[k]) for k in range(len(one))])

    def test_divides_and_over(self):
        outcomes = {True: 0, False: 0}
        for one, other in pairs():
            fits = all(one[k] <= other[k] for k in range(len(one)))
            outcomes[fits] += 1
            self.assertIs(divides(one, other), fits)
            if fits:
                told = product_over(other, one)
                self.assertIs(is_product(told, len(one)), True)
                self.assertEqual(product_times(told, one), other)
            else:
                check_refused(self, NoPart, lambda: product_over(other, one))
        self.assertGreater(min(outcomes.values()), 100)

    def test_over_itself_and_one(self):
        self.assertEqual(product_over((2, 1), (2, 1)), (0, 0))
        self.assertEqual(product_over((2, 1), (0, 0)), (2, 1))
        check_refused(self, NoPart, lambda: product_over((0, 0), (0, 1)))
        check_refused(self, NoPart, lambda: product_over((9, 0), (0, 1)))


class Order(unittest.TestCase):
    def test_by_degree_first(self):
        self.assertIs(is_above((0, 3), (2, 0)), True)
        self.assertIs(is_above((2, 0), (0, 3)), False)

    def test_of_one_degree_as_tuples(self):
        self.assertIs(is_above((1, 0, 1), (0, 2, 0)), True)
        self.assertIs(is_above((0, 2, 0), (1, 0, 1)), False)
        self.assertIs(is_above((1, 1, 0), (1, 0, 1)), True)

    def test_never_itself_and_just_one_of_two(self):
        for one, other in pairs():
            expected = (sum(one), list(one)) > (sum(other), list(other))
            self.assertIs(is_above(one, other), expected)
            self.assertEqual(is_above(one, other) or is_above(other, one), one != other)


class AllOfADegree(unittest.TestCase):
    def test_each_once_falling_and_all(self):
        for letters in LETTERS:
            for most in range(9):
                told = all_products(letters, most)
                every = [p for p in itertools.product(range(most + 1), repeat=letters) if sum(p) == most]
                self.assertIs(type(told), list)
                self.assertEqual(told, sorted(every, reverse=True))
                self.assertTrue(all(is_product(one, letters) for one in told))
                self.assertTrue(all(is_above(one, other) for one, other in zip(told, told[1:])))

    def test_small_ones(self):
        self.assertEqual(all_products(1, 0), [(0,)])
        self.assertEqual(all_products(4, 0), [(0, 0, 0, 0)])
        self.assertEqual(all_products(1, 24), [(24,)])
        self.assertEqual(all_products(2, 2), [(2, 0), (1, 1), (0, 2)])
        self.assertEqual(len(all_products(4, 24)), 27 * 26 * 25 // 6)

    def test_arguments_by_name(self):
        self.assertEqual(all_products(letters=2, degree=1), [(1, 0), (0, 1)])

    def test_the_list_is_the_askers_own(self):
        for letters in LETTERS:
            for most in range(3):
                told = all_products(letters, most)
                before = list(told)
                told.reverse()
                told.append("changed")
                self.assertEqual(all_products(letters, most), before)
