import random
import unittest

from relationladder.numbers import Fractions, Rests
from relationladder.rests import rest
from relationladder.rows import row_plus
from relationladder.sums import Ring
from relationladder.wholes import whole
from tests.helpers import check_own
from tests.reckoning import (
    COLUMNS, KINDS, as_terms, check_row, is_under, level_of, levels_of, mixed, noughts, own_lead, some_row, some_table,
    some_tables, terms_of_level,
)

TWO = Ring(Fractions(), 2)
SEVEN = Ring(Rests(7), 2)
X, Y = (1, 0), (0, 1)


class RestsCase(unittest.TestCase):
    def setUp(self):
        self.chance = random.Random(11)

    def check(self, ring, columns, table, row):
        told = rest(ring, columns, table, row)
        self.assertIs(type(told), tuple)
        multiples, left = told
        levels = levels_of(columns, table)
        own = level_of(columns, row)
        check_row(self, ring, levels, multiples, own)
        check_row(self, ring, columns, left, own)
        self.assertEqual(row_plus(ring, mixed(ring, len(columns), table, multiples), left), row)
        leads = [own_lead(one) for one in table]
        for term in as_terms(ring, left):
            self.assertFalse(any(is_under(term, lead) for lead in leads), (table, row, term))
        for multiple, lead in zip(multiples, leads):
            for product, number in multiple:
                reached = tuple(a + b for a, b in zip(product, lead[1]))
                self.assertLessEqual((reached, -lead[0]), (own_lead(row)[1], -own_lead(row)[0]))
        return multiples, left


class AnyTables(RestsCase):
    def test_drawn(self):
        for ring, columns, table in some_tables(self.chance, 8):
            for _ in range(3):
                own = self.chance.choice(columns) + self.chance.randint(0, 4)
                row = some_row(self.chance, ring, columns, own, 4, most=8)
                self.check(ring, columns, table, row)

    def test_by_whole_tables(self):
        for ring, columns, table in some_tables(self.chance, 3, columns_drawn=2):
            full = whole(ring, columns, table)
            row = some_row(self.chance, ring, columns, max(columns) + 3, 4, most=8)
            self.check(ring, columns, full, row)

    def test_rows_of_the_table(self):
        for ring, columns, table in some_tables(self.chance):
            for row in table:
                multiples, left = self.check(ring, columns, table, row)
                if len(table) == 1:
                    self.assertEqual(left, noughts(columns))
                    self.assertEqual(multiples, [[((0,) * ring.letters(), ring.numbers().of(1))]])

    def test_noughts_alone(self):
        for ring, columns, table in some_tables(self.chance, 2):
            self.assertEqual(rest(ring, columns, table, noughts(columns)), ([[] for _ in table], noughts(columns)))

    def test_without_rows(self):
        for kind in KINDS:
            for letters in (1, 2, 3, 4):
                ring = Ring(kind, letters)
                for columns in COLUMNS:
                    row = some_row(self.chance, ring, columns, max(columns) + 2, 3)
                    self.assertEqual(rest(ring, columns, [], row), ([], row))

    def test_rows_of_one_part_each(self):
        for kind in KINDS:
            for letters in (1, 2, 3, 4):
                ring = Ring(kind, letters)
                for columns in COLUMNS:
                    table = [[[] for _ in columns] for _ in range(4)]
                    for one in table:
                        place = self.chance.randrange(len(columns))
                        product = tuple(self.chance.randint(0, 1) for _ in range(letters))
                        one[place] = [(product, ring.numbers().of(1 + self.chance.randint(0, 1) * 6, 5))]
                        if one[place][0][1] in (0, (0, 1)):
                            one[place] = [(product, ring.numbers().of(1))]
                    row = some_row(self.chance, ring, columns, max(columns) + 2, 6)
                    leads = [own_lead(one) for one in table]
                    expected = [[part for part in entry if not any(is_under((place, part[0]), lead) for lead in leads)]
                                for place, entry in enumerate(row)]
                    self.assertEqual(self.check(ring, columns, table, row)[1] if any(row) else row, expected)

    def test_levels_above_the_row(self):
        ring = TWO
        table = [[[((3, 0), (2, 1))]], [[((1, 1), (1, 1))]]]
        self.assertEqual(rest(ring, [0], table, [[(X, (5, 1))]]), ([[], []], [[(X, (5, 1))]]))


class WrittenOut(RestsCase):
    def test_one_row(self):
        table = [[[(X, (2, 1)), (Y, (-1, 1))]]]
        told = rest(TWO, [0], table, [[((2, 0), (1, 1))]])
        self.assertEqual(told, ([[(X, (1, 2)), (Y, (1, 4))]], [[((0, 2), (1, 4))]]))
        told = rest(SEVEN, [3], [[[(X, 2), (Y, 6)]]], [[((2, 0), 1)]])
        self.assertEqual(told, ([[(X, 4), (Y, 2)]], [[((0, 2), 2)]]))

    def test_terms_behind_the_lead_too(self):
        table = [[[(Y, (1, 1))], []]]
        told = rest(TWO, [0, 0], table, [[(X, (1, 1)), (Y, (4, 1))], [(Y, (3, 1))]])
        self.assertEqual(told, ([[((0, 0), (4, 1))]], [[(X, (1, 1))], [(Y, (3, 1))]]))

    def test_unlike_columns(self):
        table = [[[((0, 2), (1, 1))], [(X, (3, 1))]]]
        told = rest(TWO, [0, 1], table, [[], [((1, 1), (1, 1))]])
        self.assertEqual(told, ([[(Y, (1, 3))]], [[((0, 3), (-1, 3))], []]))


class Large(RestsCase):
    def test_ten_figures_over_ten(self):
        for letters in (1, 2, 3, 4):
            ring = Ring(Fractions(), letters)
            for columns in ([0], [1, -1], [0, 0, 1]):
                table = some_table(self.chance, ring, columns, 3, (1, 2), 2, 10)
                self.check(ring, columns, table, some_row(self.chance, ring, columns, max(columns) + 3, 3, 10))

    def test_degree_twenty_four(self):
        for kind in KINDS:
            ring = Ring(kind, 4)
            table = some_table(self.chance, ring, [0], 5, (1, 2), 2)
            goals = [term for term in terms_of_level(ring, [0], 24) if max(term[1]) < 12]
            product = self.chance.choice(goals)[1]
            self.check(ring, [0], table, [[(product, ring.numbers().of(1))]])

    def test_five_rows_over_three_columns(self):
        for kind in KINDS:
            for letters in (1, 4):
                ring = Ring(kind, letters)
                table = some_table(self.chance, ring, [0, 1, -1], 5, (1, 2), 3)
                self.check(ring, [0, 1, -1], table, some_row(self.chance, ring, [0, 1, -1], 4, 6, most=6))


class Own(RestsCase):
    def test_lists_are_the_askers_own(self):
        for ring, columns, table in some_tables(self.chance, letters=(1, 3)):
            row = some_row(self.chance, ring, columns, max(columns) + 2, 3)
            check_own(self, lambda a, b, c: rest(ring, a, b, c), columns, table, row)
            check_own(self, lambda a, b, c: rest(ring, a, b, c), columns, table, noughts(columns))
