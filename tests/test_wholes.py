import copy
import random
import unittest

from relationladder.leads import lead
from relationladder.numbers import Fractions, Rests
from relationladder.rests import rest
from relationladder.sums import Ring
from relationladder.wholes import whole, whole_with
from tests.helpers import check_own
from tests.reckoning import (
    COLUMNS, KINDS, as_terms, check_row, check_table, dict_multiple, as_row, is_under, level_of, levels_of, mixed,
    noughts, one, own_lead, rank_at, same_mixtures, some_mixture, some_number, some_table, some_tables,
    terms_of_level,
)

TWO = Ring(Fractions(), 2)
X, Y, ONE = (1, 0), (0, 1), (0, 0)


class WholesCase(unittest.TestCase):
    def setUp(self):
        self.chance = random.Random(12)

    def check(self, ring, columns, table):
        told = whole(ring, columns, table)
        check_table(self, ring, columns, told)
        leads = [own_lead(row) for row in told]
        self.assertEqual([place_product_number[2] for place_product_number in leads],
                         [ring.numbers().of(1) for _ in told])
        heights = [(product, -place) for place, product, number in leads]
        self.assertEqual(heights, sorted(set(heights), reverse=True))
        for row in told:
            for other, second in zip(told, leads):
                if other is not row:
                    self.assertFalse(any(is_under(term, second) for term in as_terms(ring, row)), (table, told))
        for row in table:
            self.check_leaves_nothing(ring, columns, told, row)
        self.check_overlaps(ring, columns, told, leads)
        self.check_same_ranks(ring, columns, table, told)
        return told

    def check_leaves_nothing(self, ring, columns, told, row):
        multiples, left = rest(ring, columns, told, row)
        self.assertEqual(left, noughts(columns))
        self.assertEqual(mixed(ring, len(columns), told, multiples), row)

    def check_overlaps(self, ring, columns, told, leads):
        for number, (row, first) in enumerate(zip(told, leads)):
            for other, second in zip(told[:number], leads[:number]):
                if first[0] == second[0]:
                    common = [max(a, b) for a, b in zip(first[1], second[1])]
                    factors = [tuple(a - b for a, b in zip(common, own[1])) for own in (first, second)]
                    numbers = ring.numbers()
                    multiples = [[(factors[0], numbers.of(1))], [(factors[1], numbers.of(-1))]]
                    self.check_leaves_nothing(ring, columns, told, mixed(ring, len(columns), [row, other], multiples))

    def check_same_ranks(self, ring, columns, table, told):
        """Of the told rows no more can be mixed than of the table's, and no less."""
        for level in sorted(set(levels_of(columns, table))):
            if len(terms_of_level(ring, columns, level)) < 150:
                self.assertEqual(rank_at(ring, columns, table, level), rank_at(ring, columns, told, level))


class Whole(WholesCase):
    def test_drawn(self):
        for ring, columns, table in some_tables(self.chance, 4):
            told = self.check(ring, columns, table)
            for _ in range(2 if table else 0):
                multiples, row = some_mixture(self.chance, ring, columns, table)
                self.check_leaves_nothing(ring, columns, told, row)

    def test_each_row_is_a_mixture_of_the_tables(self):
        for ring, columns, table in some_tables(self.chance, letters=(2, 3)):
            for row in whole(ring, columns, table):
                level = level_of(columns, row)
                if len(terms_of_level(ring, columns, level)) < 150:
                    given = rank_at(ring, columns, table, level)
                    self.assertEqual(rank_at(ring, columns, table + [row], level), given)

    def test_same_mixtures_same_whole_table(self):
        for ring, columns, table in some_tables(self.chance, 2):
            told = whole(ring, columns, table)
            for _ in range(2):
                changed = same_mixtures(self.chance, ring, columns, table)
                self.assertEqual(whole(ring, columns, changed), told, (table, changed))

    def test_of_the_whole_table_itself(self):
        for ring, columns, table in some_tables(self.chance, 2):
            told = whole(ring, columns, table)
            self.assertEqual(whole(ring, columns, told), told)
            self.assertEqual(whole(ring, columns, told[::-1]), told)
            self.assertEqual(whole(ring, columns, (told + table)[-5:] + told), told)

    def test_twice_and_multiples(self):
        for ring, columns, table in some_tables(self.chance):
            if table:
                told = whole(ring, columns, table)
                self.assertEqual(whole(ring, columns, table + copy.deepcopy(table)), told)
                factor = {tuple([2] + [0] * (ring.letters() - 1)): some_number(self.chance, ring, 0)}
                more = as_row(ring, len(columns), dict_multiple(as_terms(ring, table[0]), factor))
                self.assertEqual(whole(ring, columns, [more] + table), told)

    def test_without_rows(self):
        for kind in KINDS:
            for letters in (1, 2, 3, 4):
                for columns in COLUMNS:
                    self.assertEqual(whole(Ring(kind, letters), columns, []), [])
                    self.assertEqual(whole_with(Ring(kind, letters), columns, []), ([], []))

    def test_rest_hangs_on_the_row_alone(self):
        for ring, columns, table in some_tables(self.chance, letters=(1, 2, 3)):
            told = whole(ring, columns, table)
            for _ in range(2 if table else 0):
                multiples, row = some_mixture(self.chance, ring, columns, table)
                own = max(levels_of(columns, table))
                lone = [[((own - degree,) + (0,) * (ring.letters() - 1), ring.numbers().of(1))] if own - degree in
                        range(9) else [] for degree in columns]
                if level_of(columns, row) == own and any(lone):
                    both = mixed(ring, len(columns), [row, lone], [[(one(ring), ring.numbers().of(1))]] * 2)
                    self.assertEqual(rest(ring, columns, told, both)[1], rest(ring, columns, told, lone)[1])

    def test_written_out(self):
        table = [[[((2, 0), (2, 1)), ((1, 1), (2, 1))]], [[((1, 1), (3, 1)), ((0, 2), (-3, 1))]]]
        told = [[[((2, 0), (1, 1)), ((0, 2), (1, 1))]], [[((1, 1), (1, 1)), ((0, 2), (-1, 1))]], [[((0, 3), (1, 1))]]]
        self.assertEqual(whole(TWO, [0], table), told)
        table = [[[(X, (1, 1))], [(Y, (1, 1))]], [[(X, (1, 1))], [(X, (1, 1))]]]
        told = [[[], [((1, 0), (1, 1)), ((0, 1), (-1, 1))]], [[((1, 0), (1, 1))], [((0, 1), (1, 1))]]]
        self.assertEqual(whole(TWO, [0, 0], table), told[::-1])

    def test_rows_fall_by_products_then_places(self):
        table = [[[], [], [(Y, (1, 1))]], [[], [(X, (1, 1))], []], [[((0, 3), (1, 1))], [], []],
                 [[((1, 0), (1, 1))], [], []], [[((0, 4), (1, 1))], [], []]]
        told = whole(TWO, [0, 0, 0], table)
        self.assertEqual([lead([0, 0, 0], row)[:2] for row in told], [(0, X), (1, X), (0, (0, 3)), (2, Y)])

    def test_unlike_levels_at_one_place(self):
        seven = Ring(Rests(7), 1)
        table = [[[((4,), 3)], []], [[((2,), 5)], [((0,), 2)]], [[], [((3,), 1)]]]
        told = self.check(seven, [0, 2], table)
        self.assertEqual(told, [[[((2,), 1)], [((0,), 6)]], [[], [((2,), 1)]]])


class Ways(WholesCase):
    def check_ways(self, ring, columns, table):
        told = whole_with(ring, columns, table)
        self.assertIs(type(told), tuple)
        full, ways = told
        self.assertEqual(full, whole(ring, columns, table))
        self.assertEqual(len(ways), len(full))
        levels = levels_of(columns, table)
        for row, way in zip(full, ways):
            check_row(self, ring, levels, way, level_of(columns, row))
            self.assertEqual(mixed(ring, len(columns), table, way), row, table)

    def test_drawn(self):
        for ring, columns, table in some_tables(self.chance, 4):
            self.check_ways(ring, columns, table)

    def test_of_whole_tables(self):
        for ring, columns, table in some_tables(self.chance, letters=(1, 2, 3)):
            self.check_ways(ring, columns, whole(ring, columns, table))


class Large(WholesCase):
    def test_ten_figures_over_ten(self):
        for letters, columns, many in [(1, [0, 1, -1], 4), (2, [0], 3), (2, [0, 1], 3), (3, [0], 3), (3, [1, 0], 3),
                                       (4, [0], 3), (4, [0, 0], 3)]:
            ring = Ring(Fractions(), letters)
            table = some_table(self.chance, ring, columns, many, (1, 2), 2, 10)
            self.check(ring, columns, table)
            Ways.check_ways(self, ring, columns, table)

    def test_five_rows_over_three_columns(self):
        for kind in KINDS:
            for letters in (1, 2, 3, 4):
                ring = Ring(kind, letters)
                for columns in ([0, 0, 0], [0, 1, -1]):
                    table = some_table(self.chance, ring, columns, 5, (1,) if letters == 4 else (1, 2), 2)
                    self.check(ring, columns, table)
                    Ways.check_ways(self, ring, columns, table)

    def test_degree_four(self):
        for kind in KINDS:
            for letters in (1, 2, 3, 4):
                ring = Ring(kind, letters)
                table = some_table(self.chance, ring, [0], 4, (3, 4), 2)
                self.check(ring, [0], table)


class Own(WholesCase):
    def test_lists_are_the_askers_own(self):
        for ring, columns, table in some_tables(self.chance, letters=(1, 2, 3)):
            check_own(self, lambda a, b: whole(ring, a, b), columns, table)
            check_own(self, lambda a, b: whole_with(ring, a, b), columns, table)

    def test_one_list_as_several_rows(self):
        row = [[(X, (1, 1)), (Y, (2, 1))], [(Y, (1, 1))]]
        table = [row, row]
        self.assertEqual(whole(TWO, [0, 0], table), [row])
        self.assertEqual(table, [row, row])
        self.assertEqual(row, [[(X, (1, 1)), (Y, (2, 1))], [(Y, (1, 1))]])
