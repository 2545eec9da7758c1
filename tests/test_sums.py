import random
import unittest

from relationladder.errors import NoRing
from relationladder.numbers import Fractions, Rests
from relationladder.sums import Ring, is_level, is_sum, level, minus, plus, scaled, sum_of, times
from tests.helpers import (
    GREAT, KINDS, ODD_THINGS, RINGS, as_dict, as_number, as_sum, check_own, check_refused, dict_plus, dict_times,
    random_number, random_sum, value,
)

TWO = Ring(Fractions(), 2)
SEVEN = Ring(Rests(7), 2)
X, Y, ONE = (1, 0), (0, 1), (0, 0)


class SumsCase(unittest.TestCase):
    def setUp(self):
        self.chance = random.Random(6)

    def some_sums(self, ring, many=12):
        return [[]] + [random_sum(self.chance, ring, range(5)) for _ in range(many)]

    def assert_sum(self, ring, told, expected):
        self.assertEqual(told, expected)
        self.assertIs(is_sum(ring, told), True, told)


class Rings(unittest.TestCase):
    def test_tells_its_numbers_and_letters(self):
        for kind in KINDS:
            for letters in (1, 2, 3, 4):
                ring = Ring(kind, letters)
                self.assertIs(ring.numbers(), kind)
                self.assertEqual(ring.letters(), letters)

    def test_other_numbers_of_letters_are_refused(self):
        for kind in KINDS:
            for letters in (0, 5, 6, -1, -4, GREAT, -GREAT):
                check_refused(self, NoRing, lambda: Ring(kind, letters))


class Made(SumsCase):
    def test_order_repeats_and_noughts(self):
        parts = [(Y, (1, 2)), (ONE, (3, 1)), ((2, 0), (1, 1)), (X, (0, 1)), (Y, (1, 3)), (ONE, (-3, 1))]
        parts += [((1, 1), (2, 1))]
        self.assert_sum(TWO, sum_of(TWO, parts), [((2, 0), (1, 1)), ((1, 1), (2, 1)), (Y, (5, 6))])
        self.assert_sum(SEVEN, sum_of(SEVEN, [(Y, 3), (X, 6), (Y, 4), (X, 6), (ONE, 0)]), [(X, 5)])

    def test_by_degree_ahead_of_tuples(self):
        told = sum_of(TWO, [((1, 1), (1, 1)), ((0, 3), (1, 1)), (X, (1, 1)), ((2, 0), (1, 1)), (Y, (1, 1))])
        self.assertEqual([product for product, number in told], [(0, 3), (2, 0), (1, 1), X, Y])

    def test_nothing_and_noughts_make_nought(self):
        for ring in RINGS:
            product, nought = (1,) * ring.letters(), ring.numbers().of(0)
            self.assert_sum(ring, sum_of(ring, []), [])
            self.assert_sum(ring, sum_of(ring, [(product, nought)] * 3), [])
            contrary = [(product, ring.numbers().of(1)), (product, ring.numbers().of(-1))]
            self.assert_sum(ring, sum_of(ring, contrary), [])

    def test_any_parts(self):
        for ring in RINGS:
            for _ in range(10):
                parts = [part for one in self.some_sums(ring, 4) for part in one]
                parts += [(product, ring.numbers().of(0)) for product, number in parts[::3]]
                self.chance.shuffle(parts)
                found = {}
                for product, number in parts:
                    found[product] = found.get(product, 0) + value(ring, number)
                self.assert_sum(ring, sum_of(ring, parts), as_sum(ring, found))

    def test_what_is_handed_in_stays(self):
        for ring in RINGS:
            one = random_sum(self.chance, ring, range(4))
            check_own(self, lambda parts: sum_of(ring, parts), one)
            check_own(self, lambda parts: sum_of(ring, parts), one[::-1] + one)
            check_own(self, lambda parts: sum_of(ring, parts), [])


class Known(SumsCase):
    def test_sums(self):
        for ring in RINGS:
            for one in self.some_sums(ring):
                self.assertIs(is_sum(ring, one), True, one)

    def test_order_and_repeats(self):
        one = [((0, 3), (1, 1)), ((2, 0), (2, 1)), ((1, 1), (1, 2)), (X, (1, 1)), (ONE, (-1, 1))]
        self.assertIs(is_sum(TWO, one), True)
        for place in range(4):
            turned = one[:place] + [one[place + 1], one[place]] + one[place + 2:]
            self.assertIs(is_sum(TWO, turned), False, turned)
        for place in range(5):
            twice = one[:place] + [one[place]] + one[place:]
            self.assertIs(is_sum(TWO, twice), False, twice)

    def test_wrong_numbers(self):
        wrong = [(0, 1), (2, 4), (1, -1), (1, 0), (True, 1), (1, True), True, 1, 0, None, "1", [1, 1], (1, 1, 1)]
        for number in wrong + [(1,), []]:
            self.assertIs(is_sum(TWO, [(X, number)]), False, number)
            self.assertIs(is_sum(TWO, [((2, 0), (1, 1)), (X, number), (Y, (1, 1))]), False, number)
        for number in [0, 7, 8, -1, True, False, (1, 1), None, "1", [1], GREAT]:
            self.assertIs(is_sum(SEVEN, [(X, number)]), False, number)
            self.assertIs(is_sum(SEVEN, [(X, 1), (Y, number)]), False, number)

    def test_wrong_products(self):
        for ring in RINGS:
            letters, one = ring.letters(), ring.numbers().of(1)
            self.assertIs(is_sum(ring, [((2,) * letters, one)]), True)
            for wrong in [-1, True, False, None, "x", [1], (1,), ()]:
                for place in range(letters):
                    product = (2,) * place + (wrong,) + (2,) * (letters - place - 1)
                    self.assertIs(is_sum(ring, [(product, one)]), False, product)
            for product in [(2,) * (letters - 1), (2,) * (letters + 1), [2] * letters, "2" * letters, 2, None]:
                self.assertIs(is_sum(ring, [(product, one)]), False, product)

    def test_wrong_forms(self):
        for ring in RINGS:
            part = ((2,) * ring.letters(), ring.numbers().of(1))
            forms = [(part,), part, list(part), [list(part)], [part + part], [part[:1]], [[part]], [(part, part)]]
            forms += [[part, None], [part, ()], [None, part], [part, "x"], [(part[1], part[0])], 0, 1]
            for thing in forms:
                self.assertIs(is_sum(ring, thing), False, thing)
            for thing in ODD_THINGS + [((),), [[]], [[], []]]:
                self.assertIs(is_sum(ring, thing), False, thing)
                self.assertIs(is_sum(ring, [part, thing]), False, thing)


class Reckoned(SumsCase):
    def test_four_ways(self):
        for ring in RINGS:
            some = self.some_sums(ring)
            for one, other in zip(some, some[1:] + some[:1]):
                first, second = as_dict(ring, one), as_dict(ring, other)
                self.assert_sum(ring, plus(ring, one, other), as_sum(ring, dict_plus(first, second)))
                self.assert_sum(ring, minus(ring, one, other), as_sum(ring, dict_plus(first, second, -1)))
                self.assert_sum(ring, times(ring, one, other), as_sum(ring, dict_times(first, second)))
                number = random_number(self.chance, ring)
                expected = {product: own * value(ring, number) for product, own in first.items()}
                self.assert_sum(ring, scaled(ring, one, number), as_sum(ring, expected))

    def test_back_and_forth(self):
        for ring in RINGS:
            some = self.some_sums(ring)
            for one, other in zip(some, some[::-1]):
                self.assertEqual(plus(ring, minus(ring, one, other), other), one)
                self.assertEqual(plus(ring, one, other), plus(ring, other, one))
                self.assertEqual(times(ring, one, other), times(ring, other, one))

    def test_nought_and_contraries(self):
        for ring in RINGS:
            nought, unit = ring.numbers().of(0), ring.numbers().of(1)
            for one in self.some_sums(ring):
                self.assert_sum(ring, plus(ring, one, []), one)
                self.assert_sum(ring, plus(ring, [], one), one)
                self.assert_sum(ring, minus(ring, one, []), one)
                self.assert_sum(ring, minus(ring, one, one), [])
                self.assert_sum(ring, plus(ring, one, minus(ring, [], one)), [])
                self.assert_sum(ring, times(ring, one, []), [])
                self.assert_sum(ring, times(ring, [], one), [])
                self.assert_sum(ring, scaled(ring, one, nought), [])
                self.assert_sum(ring, scaled(ring, one, unit), one)
                self.assert_sum(ring, scaled(ring, [], unit), [])
                self.assert_sum(ring, times(ring, one, [((0,) * ring.letters(), unit)]), one)

    def test_written_out(self):
        one, other = [(X, (1, 1)), (Y, (-1, 2))], [(X, (1, 1)), (Y, (1, 2))]
        self.assert_sum(TWO, times(TWO, one, other), [((2, 0), (1, 1)), ((0, 2), (-1, 4))])
        self.assert_sum(TWO, minus(TWO, one, other), [(Y, (-1, 1))])
        self.assert_sum(TWO, scaled(TWO, one, (GREAT, 2)), [(X, (GREAT, 2)), (Y, (-GREAT, 4))])
        self.assert_sum(SEVEN, times(SEVEN, [(X, 3), (ONE, 5)], [(X, 5), (ONE, 1)]), [((2, 0), 1), (ONE, 5)])

    def test_thirty_figures_and_many_parts(self):
        for ring in RINGS:
            letters, kind = ring.letters(), ring.numbers()
            products = [(often,) + (0,) * (letters - 1) for often in range(24, -1, -1)]
            one = sum_of(ring, [(product, kind.of(GREAT + sum(product))) for product in products])
            told = times(ring, one, one)
            self.assert_sum(ring, told, as_sum(ring, dict_times(as_dict(ring, one), as_dict(ring, one))))

    def test_lists_are_the_askers_own(self):
        for ring in RINGS:
            number = as_number(ring, value(ring, ring.numbers().of(5)))
            for one in self.some_sums(ring, 3):
                for other in [one, [], random_sum(self.chance, ring, range(4))]:
                    for way in (plus, minus, times):
                        check_own(self, lambda first, second: way(ring, first, second), one, other)
                        check_own(self, lambda first, second: way(ring, first, second), other, one)
                for factor in (ring.numbers().of(0), ring.numbers().of(1), number):
                    check_own(self, lambda first: scaled(ring, first, factor), one)

    def test_one_list_handed_in_twice(self):
        one = [(X, (1, 1)), (Y, (2, 1))]
        self.assertEqual(plus(TWO, one, one), [(X, (2, 1)), (Y, (4, 1))])
        self.assertEqual(minus(TWO, one, one), [])
        self.assertEqual(one, [(X, (1, 1)), (Y, (2, 1))])


class Levels(SumsCase):
    def test_of_one_degree(self):
        for ring in RINGS:
            for own in range(6):
                one = random_sum(self.chance, ring, [own])
                self.assertIs(is_level(one), True)
                self.assertEqual(level(one), own if one else None)

    def test_of_several(self):
        self.assertIs(is_level([((2, 0), (1, 1)), (X, (1, 1))]), False)
        self.assertIs(is_level([((2, 0), 1), ((1, 1), 1), (ONE, 1)]), False)
        self.assertIs(is_level([((0, 3), 1), ((2, 0), 1), ((1, 1), 1)]), False)
        for ring in RINGS:
            for one in self.some_sums(ring):
                self.assertIs(is_level(one), len({sum(product) for product, number in one}) <= 1)

    def test_nought(self):
        self.assertIs(is_level([]), True)
        self.assertIs(level([]), None)

    def test_one_alone(self):
        self.assertEqual(level([(ONE, (3, 1))]), 0)
        self.assertEqual(level([((24,), 1)]), 24)
