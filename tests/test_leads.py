import random
import unittest

from relationladder.errors import NoRow
from relationladder.leads import lead
from tests.helpers import RINGS, check_own, check_refused, random_row

COLUMNS = [[0], [-20], [0, 0], [2, -1], [-3, 4], [0, 1, 2], [-5, -5, -4], [3, -1, 2], [0, 0, 0, 0, 0]]
HALF, THREE = (1, 2), (3, 1)


def uppermost(row):
    terms = [(place, product, number) for place, entry in enumerate(row) for product, number in entry]
    best = terms[0]
    for term in terms[1:]:
        if list(term[1]) > list(best[1]) or (term[1] == best[1] and term[0] < best[0]):
            best = term
    return best


class Leads(unittest.TestCase):
    def setUp(self):
        self.chance = random.Random(10)

    def test_the_greatest_product(self):
        self.assertEqual(lead([0], [[((2, 0), HALF), ((1, 1), THREE)]]), (0, (2, 0), HALF))
        self.assertEqual(lead([0, 0], [[((1, 1), HALF)], [((2, 0), THREE)]]), (1, (2, 0), THREE))
        self.assertEqual(lead([0, 0], [[], [((0, 2), 5)]]), (1, (0, 2), 5))
        self.assertEqual(lead([-7], [[((0,), 4)]]), (0, (0,), 4))

    def test_not_by_degree(self):
        self.assertEqual(lead([0, 3], [[((0, 4), HALF)], [((1, 0), THREE)]]), (1, (1, 0), THREE))
        self.assertEqual(lead([3, 0], [[((1, 0), HALF)], [((0, 4), THREE)]]), (0, (1, 0), HALF))
        self.assertEqual(lead([-2, 1], [[((1, 3), 1), ((0, 4), 1)], [((1, 0), 2)]]), (0, (1, 3), 1))

    def test_of_one_product_the_lesser_place(self):
        self.assertEqual(lead([0, 0, 0], [[((0, 1), 1)], [((1, 0), 2)], [((1, 0), 3)]]), (1, (1, 0), 2))
        self.assertEqual(lead([5, 5], [[((0, 0), HALF)], [((0, 0), THREE)]]), (0, (0, 0), HALF))

    def test_any_row(self):
        met = 0
        for ring in RINGS:
            for columns in COLUMNS:
                for more in range(5):
                    row = random_row(self.chance, ring, columns, max(columns) + more)
                    if any(row):
                        met += 1
                        told = lead(columns, row)
                        self.assertEqual(told, uppermost(row))
                        self.assertIs(type(told), tuple)
                        self.assertIs(type(told[0]), int)
                        check_own(self, lead, columns, row)
        self.assertGreater(met, 300)

    def test_noughts_alone_are_refused(self):
        for columns in COLUMNS + [[]]:
            check_refused(self, NoRow, lambda: lead(columns, [[] for own in columns]))
