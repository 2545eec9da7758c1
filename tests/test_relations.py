import copy
import random
import unittest

from relationladder.judging import judged
from relationladder.numbers import Fractions, Rests
from relationladder.relations import relations
from relationladder.sums import Ring, minus
from relationladder.wholes import whole
from tests.helpers import check_own
from tests.reckoning import (
    COLUMNS, KINDS, check_nothing_left_out, check_table, levels_of, mixed, noughts, some_sum, some_table, some_tables,
)

TWO = Ring(Fractions(), 2)
X, Y, ONE = (1, 0), (0, 1), (0, 0)


class RelationsCase(unittest.TestCase):
    def setUp(self):
        self.chance = random.Random(15)

    def check(self, ring, columns, table):
        told = relations(ring, columns, table)
        levels = levels_of(columns, table)
        check_table(self, ring, levels, told)
        for relation in told:
            self.assertEqual(mixed(ring, len(columns), table, relation), noughts(columns), (columns, table))
        if table:
            check_nothing_left_out(self, ring, columns, table, told)
        return told


class Relations(RelationsCase):
    def test_drawn(self):
        for ring, columns, table in some_tables(self.chance, 3):
            self.check(ring, columns, table)

    def test_relations_of_relations(self):
        for ring, columns, table in some_tables(self.chance, letters=(2, 3), columns_drawn=2):
            told = relations(ring, columns, table)
            self.check(ring, levels_of(columns, table), told)

    def test_none_is_a_mixture_of_the_others(self):
        for ring, columns, table in some_tables(self.chance, letters=(2, 3), columns_drawn=2):
            told = relations(ring, columns, table)
            for number, relation in enumerate(told):
                others = told[:number] + told[number + 1:]
                self.assertEqual(judged(ring, levels_of(columns, table), others, relation)[0], "out")

    def test_of_whole_tables(self):
        for ring, columns, table in some_tables(self.chance, letters=(1, 2, 3), columns_drawn=2):
            self.check(ring, columns, whole(ring, columns, table))

    def test_rows_of_one_column_cross(self):
        for kind in KINDS:
            for letters in (1, 2, 3, 4):
                ring = Ring(kind, letters)
                table = [[some_sum(self.chance, ring, self.chance.randint(1, 2), 2)] for _ in range(3)]
                told = self.check(ring, [5], table)
                levels = levels_of([5], table)
                for first in range(3):
                    for second in range(first):
                        crossed = [[], [], []]
                        crossed[first] = table[second][0]
                        crossed[second] = minus(ring, [], table[first][0])
                        verdict, multiples = judged(ring, levels, told, crossed)
                        self.assertEqual(verdict, "in")
                        self.assertEqual(mixed(ring, 3, told, multiples), crossed)

    def test_no_rows_and_one_part_alone(self):
        for kind in KINDS:
            for letters in (1, 2, 3, 4):
                ring = Ring(kind, letters)
                for columns in COLUMNS:
                    self.assertEqual(relations(ring, columns, []), [])
                    row = noughts(columns)
                    row[-1] = [((1,) * letters, ring.numbers().of(1))]
                    self.assertEqual(relations(ring, columns, [row]), [])

    def test_twice_and_multiples(self):
        for ring, columns, table in some_tables(self.chance, letters=(1, 2, 3), columns_drawn=2):
            if 0 < len(table) < 4:
                self.check(ring, columns, table + copy.deepcopy(table[:1]))
                factor = [((1,) + (0,) * (ring.letters() - 1), ring.numbers().of(1))]
                self.check(ring, columns, [mixed(ring, len(columns), table[:1], [factor])] + table)

    def test_written_out(self):
        x, y = [(X, (1, 1))], [(Y, (1, 1))]
        told = relations(TWO, [0], [[x], [y]])
        self.assertEqual(len(told), 1)
        self.assertIn(told[0], [[y, [(X, (-1, 1))]], [[(Y, (-1, 1))], x]])
        self.assertEqual(relations(TWO, [0, 0], [[x, []], [[], y]]), [])
        told = relations(TWO, [-3], [[x], [x]])
        self.assertEqual(len(told), 1)
        self.assertIn(told[0], [[[(ONE, (1, 1))], [(ONE, (-1, 1))]], [[(ONE, (-1, 1))], [(ONE, (1, 1))]]])

    def test_numbers_alone(self):
        ring = Ring(Fractions(), 3)
        one = [((0, 0, 0), (1, 1))]
        two = [((0, 0, 0), (2, 3))]
        self.check(ring, [0, 0], [[one, two], [two, one], [one, one]])
        self.check(ring, [4], [[one], [[((1, 0, 0), (1, 1))]], [[((0, 2, 0), (5, 1))]]])


class Large(RelationsCase):
    def test_ten_figures_over_ten(self):
        for letters, columns, many in [(1, [0, 1], 4), (2, [0], 4), (2, [0, 1], 3), (3, [0], 3), (3, [1, 0], 4),
                                       (4, [0], 3), (4, [0, 0], 3)]:
            ring = Ring(Fractions(), letters)
            self.check(ring, columns, some_table(self.chance, ring, columns, many, (1, 2), 2, 10))

    def test_five_rows_over_three_columns(self):
        for kind in KINDS:
            for letters in (1, 2, 3, 4):
                ring = Ring(kind, letters)
                for columns in ([0, 0, 0], [0, 1, -1]):
                    self.check(ring, columns, some_table(self.chance, ring, columns, 5, (1, 2), 2))

    def test_four_letters_three_columns_degree_two(self):
        """Their whole tables have some sixty rows; their relations are few and small, and no long wait is due."""
        for kind in (Fractions(), Rests(9973)):
            ring = Ring(kind, 4)
            for _ in range(4):
                self.check(ring, [0, 0, 0], some_table(self.chance, ring, [0, 0, 0], 5, (2,), 2))

    def test_degree_four(self):
        for kind in KINDS:
            for letters in (1, 2, 3, 4):
                ring = Ring(kind, letters)
                self.check(ring, [0], some_table(self.chance, ring, [0], 4, (3, 4), 2))


class Own(RelationsCase):
    def test_lists_are_the_askers_own(self):
        for ring, columns, table in some_tables(self.chance, letters=(1, 2, 3)):
            check_own(self, lambda a, b: relations(ring, a, b), columns, table)
