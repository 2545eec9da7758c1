import random
import unittest

from relationladder.judging import judged
from relationladder.numbers import Fractions, Rests
from relationladder.rests import rest
from relationladder.sums import Ring, is_sum
from relationladder.wholes import whole
from tests.helpers import check_own, value
from tests.reckoning import (
    COLUMNS, KINDS, as_terms, check_row, level_of, levels_of, mixed, multiples_at, noughts, rank, some_mixture, some_row,
    some_table, some_tables, terms_of_level,
)

TWO = Ring(Fractions(), 2)
X, Y = (1, 0), (0, 1)


class JudgingCase(unittest.TestCase):
    def setUp(self):
        self.chance = random.Random(14)

    def check(self, ring, columns, table, row):
        told = judged(ring, columns, table, row)
        self.assertIs(type(told), tuple)
        self.assertEqual(len(told), 2)
        self.assertIn(told[0], ("in", "out"))
        if told[0] == "in":
            self.check_in(ring, columns, table, row, told[1])
        else:
            self.check_out(ring, columns, table, row, told[1])
        return told[0]

    def check_in(self, ring, columns, table, row, multiples):
        check_row(self, ring, levels_of(columns, table), multiples, level_of(columns, row))
        self.assertEqual(mixed(ring, len(columns), table, multiples), row)

    def check_out(self, ring, columns, table, row, weights):
        level = level_of(columns, row)
        self.assertIs(type(weights), list)
        heights = []
        for weight in weights:
            self.assertIs(type(weight), tuple)
            place, product, number = weight
            self.assertIn(place, range(len(columns)))
            self.assertIs(is_sum(ring, [(product, number)]), True, weight)
            self.assertEqual(columns[place] + sum(product), level)
            heights.append((product, -place))
        self.assertEqual(heights, sorted(set(heights), reverse=True))
        worth = {(place, product): value(ring, number) for place, product, number in weights}
        self.assertNotEqual(self.worth(ring, worth, as_terms(ring, row)), 0)
        for terms in multiples_at(ring, columns, table, level):
            self.assertEqual(self.worth(ring, worth, terms), 0, (columns, table, row))

    def worth(self, ring, worth, terms):
        found = sum(number * worth.get(term, 0) for term, number in terms.items())
        return found % ring.numbers().prime() if ring.numbers().prime() else found


class Judged(JudgingCase):
    def test_mixtures_and_rows(self):
        for ring, columns, table in some_tables(self.chance, 4):
            for row in table:
                self.assertEqual(self.check(ring, columns, table, row), "in")
            for _ in range(2 if table else 0):
                multiples, row = some_mixture(self.chance, ring, columns, table)
                self.assertEqual(self.check(ring, columns, table, row), "in")

    def test_any_rows(self):
        met = {"in": 0, "out": 0}
        for ring, columns, table in some_tables(self.chance, 4):
            for _ in range(4):
                own = self.chance.choice(columns) + self.chance.randint(0, 4)
                row = some_row(self.chance, ring, columns, own, 3, most=6)
                verdict = self.check(ring, columns, table, row)
                met[verdict] += any(row)
                left = rest(ring, columns, whole(ring, columns, table), row)[1]
                self.assertEqual(verdict == "in", left == noughts(columns))
        self.assertGreater(met["in"], 50)
        self.assertGreater(met["out"], 150)

    def test_by_ranks(self):
        for ring, columns, table in some_tables(self.chance, 2):
            own = self.chance.choice(columns) + self.chance.randint(0, 3)
            row = some_row(self.chance, ring, columns, own, 2)
            if any(row) and len(terms_of_level(ring, columns, own)) < 150:
                given = multiples_at(ring, columns, table, own)
                grows = rank(ring, given + [as_terms(ring, row)]) > rank(ring, given)
                self.assertEqual(judged(ring, columns, table, row)[0], "out" if grows else "in")

    def test_mixtures_with_a_stray_term(self):
        for ring, columns, table in some_tables(self.chance, 2):
            for _ in range(2 if table else 0):
                multiples, row = some_mixture(self.chance, ring, columns, table)
                stray = some_row(self.chance, ring, columns, max(levels_of(columns, table)), 1)
                if level_of(columns, row) == level_of(columns, stray):
                    unit = [((0,) * ring.letters(), ring.numbers().of(1))]
                    self.check(ring, columns, table, mixed(ring, len(columns), [row, stray], [unit, unit]))

    def test_noughts_alone(self):
        for ring, columns, table in some_tables(self.chance, 2):
            self.assertEqual(judged(ring, columns, table, noughts(columns)), ("in", [[] for _ in table]))

    def test_without_rows(self):
        for kind in KINDS:
            for letters in (1, 2, 3, 4):
                ring = Ring(kind, letters)
                for columns in COLUMNS:
                    row = some_row(self.chance, ring, columns, max(columns) + 2, 3)
                    self.assertEqual(self.check(ring, columns, [], row), "out" if any(row) else "in")
                    self.assertEqual(judged(ring, columns, [], noughts(columns)), ("in", []))

    def test_by_the_whole_table(self):
        for ring, columns, table in some_tables(self.chance, letters=(2, 3)):
            full = whole(ring, columns, table)
            row = some_row(self.chance, ring, columns, max(columns) + 2, 2)
            self.assertEqual(self.check(ring, columns, full, row), self.check(ring, columns, table, row))

    def test_written_out(self):
        table = [[[((2, 0), (1, 1))]], [[((1, 1), (2, 1)), ((0, 2), (2, 1))]]]
        self.assertEqual(judged(TWO, [0], table, [[(X, (1, 1))]]), ("out", [(0, X, (1, 1))]))
        self.assertEqual(judged(TWO, [0], table, [[((0, 3), (1, 1))]])[0], "in")
        self.assertEqual(judged(TWO, [0], table, [[((0, 2), (1, 1))]])[0], "out")
        self.assertEqual(judged(Ring(Rests(2), 2), [0], [[[((2, 0), 1)]]], [[((1, 1), 1)]])[0], "out")


class Large(JudgingCase):
    def test_ten_figures_over_ten(self):
        for letters, columns in [(1, [0, 1]), (2, [0, 0]), (3, [0]), (3, [1, 0]), (4, [0])]:
            ring = Ring(Fractions(), letters)
            table = some_table(self.chance, ring, columns, 3, (1, 2), 2, 10)
            for _ in range(3):
                self.check(ring, columns, table, some_row(self.chance, ring, columns, max(columns) + 2, 2, 10))
                multiples, row = some_mixture(self.chance, ring, columns, table)
                self.assertEqual(self.check(ring, columns, table, row), "in")

    def test_five_rows_over_three_columns(self):
        for kind in KINDS:
            for letters in (1, 2, 3, 4):
                ring = Ring(kind, letters)
                columns = [0, 1, -1]
                table = some_table(self.chance, ring, columns, 5, (1, 2), 2)
                for own in (1, 2, 3, 4):
                    self.check(ring, columns, table, some_row(self.chance, ring, columns, own, 3, most=5))

    def test_high_levels(self):
        for kind in KINDS:
            ring = Ring(kind, 3)
            table = some_table(self.chance, ring, [0], 2, (1, 2), 2)
            product = self.chance.choice(terms_of_level(ring, [0], 12))[1]
            self.check(ring, [0], table, [[(product, ring.numbers().of(1))]])


class Own(JudgingCase):
    def test_lists_are_the_askers_own(self):
        for ring, columns, table in some_tables(self.chance, letters=(1, 2, 3)):
            rows = [some_row(self.chance, ring, columns, max(columns) + 1, 2), noughts(columns)] + table[:1]
            for row in rows:
                check_own(self, lambda a, b, c: judged(ring, a, b, c), columns, table, row)
