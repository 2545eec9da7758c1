import random
import unittest

from relationladder.numbers import Fractions, Rests
from relationladder.rows import (
    is_row, is_table, mixture, row_level, row_minus, row_plus, row_times,
)
from relationladder.sums import Ring
from tests.helpers import (
    ODD_THINGS, RINGS, as_dict, as_sum, check_own, dict_plus, dict_times, random_row, random_sum,
)

TWO = Ring(Fractions(), 2)
SEVEN = Ring(Rests(7), 3)
COLUMNS = [[0], [3], [-20], [0, 0], [2, -1], [-3, 20], [0, 1, 2], [-5, -5, -4], [1, -1, 20]]
X, Y, ONE = (1, 0), (0, 1), (0, 0)


class RowsCase(unittest.TestCase):
    def setUp(self):
        self.chance = random.Random(8)

    def some_rows(self, ring, columns, many=4):
        """Tuples (row, level): rows of noughts alone, level None, among them."""
        found = [([[] for own in columns], None)]
        for _ in range(many):
            own = self.chance.choice(columns) + self.chance.randint(0, 4)
            row = random_row(self.chance, ring, columns, own)
            found.append((row, own if any(row) else None))
        return found

    def assert_row(self, ring, columns, told, expected):
        self.assertEqual(told, expected)
        self.assertIs(is_row(ring, columns, told), True, told)


class Known(RowsCase):
    def test_rows_and_their_levels(self):
        for ring in RINGS:
            for columns in COLUMNS:
                for row, own in self.some_rows(ring, columns):
                    self.assertIs(is_row(ring, columns, row), True, row)
                    self.assertEqual(row_level(columns, row), own)
                    self.assertIs(is_table(ring, columns, [row]), own is not None, row)

    def test_levels_written_out(self):
        x, yy, nought = [(X, (1, 1))], [((0, 2), (1, 1))], []
        self.assertEqual(row_level([0], [x]), 1)
        self.assertEqual(row_level([-20], [x]), -19)
        self.assertEqual(row_level([1, 0], [x, yy]), 2)
        self.assertEqual(row_level([7, 0], [nought, yy]), 2)
        self.assertEqual(row_level([-1], [x]), 0)
        self.assertIs(row_level([0, 5, -3], [nought, nought, nought]), None)

    def test_entries_of_other_levels(self):
        x, yy, both = [(X, (1, 1))], [((0, 2), (1, 1))], [((0, 2), (1, 1)), (X, (1, 1))]
        self.assertIs(is_row(TWO, [1, 0], [x, yy]), True)
        for columns, thing in [([0, 0], [x, yy]), ([0, 1], [x, yy]), ([1, 0], [yy, x]), ([0], [both]),
                               ([1, 0, 0], [x, yy, x]), ([1, 5, 1], [x, [], yy]), ([0, 0], [x, both])]:
            self.assertIs(is_row(TWO, columns, thing), False, (columns, thing))
            self.assertIs(is_table(TWO, columns, [thing]), False, (columns, thing))

    def test_too_many_or_too_few_entries(self):
        for ring in RINGS:
            for columns in COLUMNS:
                for row, own in self.some_rows(ring, columns):
                    for thing in [row + [[]], row[1:], row + row, [[]] + row]:
                        self.assertIs(is_row(ring, columns, thing), False, thing)
                        self.assertIs(is_table(ring, columns, [thing]), False, thing)

    def test_entries_that_are_no_sums(self):
        part = (X, (1, 1))
        for entry in [[part, part], [(X, (0, 1))], [(X, (2, 2))], [(X, 1)], [((1,), (1, 1))], (part,), (), part, None,
                      [(Y, (1, 1)), part], [list(part)], "x", 0, [[]], [None], [((1, True), (1, 1))]]:
            for thing in [[entry, []], [[], entry], [entry, [part]], [entry, entry]]:
                self.assertIs(is_row(TWO, [0, 0], thing), False, thing)
                self.assertIs(is_table(TWO, [0, 0], [thing]), False, thing)
        self.assertIs(is_row(SEVEN, [0], [[((1, 0, 0), 7)]]), False)
        self.assertIs(is_row(SEVEN, [0], [[((1, 0, 0), 6)]]), True)

    def test_other_things(self):
        for ring in RINGS:
            for columns in COLUMNS[::2]:
                row = random_row(self.chance, ring, columns, min(columns))
                for thing in ODD_THINGS + [tuple(row), [tuple(row)], [row], 0, 1]:
                    self.assertIs(is_row(ring, columns, thing), False, thing)
                for thing in ODD_THINGS + [tuple([row]), row, [row, None], [row, tuple(row)], 0, 1]:
                    self.assertIs(is_table(ring, columns, thing), False, thing)

    def test_row_of_noughts_alone_is_none_of_a_tables(self):
        x = [[(X, (1, 1))], []]
        self.assertIs(is_row(TWO, [0, 4], [[], []]), True)
        self.assertIs(is_table(TWO, [0, 4], [x]), True)
        for thing in [[[[], []]], [x, [[], []]], [[[], []], x]]:
            self.assertIs(is_table(TWO, [0, 4], thing), False, thing)

    def test_tables_of_unlike_levels(self):
        x, yy = [(X, (1, 1))], [((0, 2), (1, 1))]
        self.assertIs(is_table(TWO, [0, 0], [[x, []], [[], yy], [yy, yy], [x, []]]), True)
        self.assertIs(is_table(TWO, [0, 0], [[x, []], [x, yy]]), False)

    def test_no_columns_and_no_rows(self):
        for ring in RINGS:
            self.assertIs(is_row(ring, [], []), True)
            self.assertIs(row_level([], []), None)
            self.assertIs(is_table(ring, [], []), True)
            self.assertIs(is_table(ring, [], [[]]), False)
            for columns in COLUMNS:
                self.assertIs(is_row(ring, columns, []), False)
                self.assertIs(is_table(ring, columns, []), True)
            for thing in [[[]], (), None, "", 0, False, [None]]:
                self.assertIs(is_row(ring, [], thing), False, thing)


class Reckoned(RowsCase):
    def pairs(self, ring, columns):
        for row, own in self.some_rows(ring, columns, 2):
            second = [[] for _ in columns] if own is None else random_row(self.chance, ring, columns, own)
            yield row, second
            yield second, row
            yield row, row

    def test_added_and_taken_off(self):
        for ring in RINGS:
            for columns in COLUMNS:
                for one, other in self.pairs(ring, columns):
                    entries = [(as_dict(ring, a), as_dict(ring, b)) for a, b in zip(one, other)]
                    added = [as_sum(ring, dict_plus(a, b)) for a, b in entries]
                    taken = [as_sum(ring, dict_plus(a, b, -1)) for a, b in entries]
                    self.assert_row(ring, columns, row_plus(ring, one, other), added)
                    self.assert_row(ring, columns, row_minus(ring, one, other), taken)
                    self.assertEqual(row_plus(ring, row_minus(ring, one, other), other), one)

    def test_with_noughts_and_itself(self):
        for ring in RINGS:
            for columns in COLUMNS:
                noughts = [[] for own in columns]
                for row, own in self.some_rows(ring, columns):
                    self.assert_row(ring, columns, row_plus(ring, row, noughts), row)
                    self.assert_row(ring, columns, row_plus(ring, noughts, row), row)
                    self.assert_row(ring, columns, row_minus(ring, row, noughts), row)
                    self.assert_row(ring, columns, row_minus(ring, row, row), noughts)

    def test_times_a_level_sum(self):
        for ring in RINGS:
            for columns in COLUMNS:
                for row, own in self.some_rows(ring, columns):
                    factor = random_sum(self.chance, ring, [self.chance.randint(0, 3)])
                    expected = [as_sum(ring, dict_times(as_dict(ring, entry), as_dict(ring, factor))) for entry in row]
                    told = row_times(ring, row, factor)
                    self.assert_row(ring, columns, told, expected)
                    if own is not None and factor:
                        self.assertEqual(row_level(columns, told), own + sum(factor[0][0]))
                    self.assert_row(ring, columns, row_times(ring, row, []), [[] for own in columns])

    def test_written_out(self):
        x, y, xy = [(X, (1, 1))], [(Y, (2, 1))], [((1, 1), (2, 1))]
        self.assertEqual(row_plus(TWO, [x, []], [y, x]), [[(X, (1, 1)), (Y, (2, 1))], x])
        self.assertEqual(row_minus(TWO, [[], x], [y, x]), [[(Y, (-2, 1))], []])
        self.assertEqual(row_times(TWO, [x, []], y), [xy, []])
        self.assertEqual(row_plus(TWO, [], []), [])
        self.assertEqual(row_minus(TWO, [], []), [])
        self.assertEqual(row_times(TWO, [], y), [])


class Mixed(RowsCase):
    def some_mixture(self, ring, columns):
        """Rows and multiples such that the mixture has one level."""
        found = self.some_rows(ring, columns)
        goal = max(columns) + 5
        multiples = []
        for row, own in found:
            multiples.append(random_sum(self.chance, ring, [goal - own if own is not None else 2], 3))
        return [row for row, own in found], multiples

    def expected(self, ring, columns, rows, multiples):
        mixed = [{} for own in columns]
        for row, multiple in zip(rows, multiples):
            for place, entry in enumerate(row):
                mixed[place] = dict_plus(mixed[place], dict_times(as_dict(ring, multiple), as_dict(ring, entry)))
        return [as_sum(ring, found) for found in mixed]

    def test_sum_of_multiples_times_rows(self):
        for ring in RINGS:
            for columns in COLUMNS:
                for _ in range(2):
                    rows, multiples = self.some_mixture(ring, columns)
                    told = mixture(ring, len(columns), rows, multiples)
                    self.assert_row(ring, columns, told, self.expected(ring, columns, rows, multiples))

    def test_by_noughts_and_of_noughts(self):
        for ring in RINGS:
            for columns in COLUMNS:
                noughts = [[] for own in columns]
                rows, multiples = self.some_mixture(ring, columns)
                self.assert_row(ring, columns, mixture(ring, len(columns), rows, [[] for row in rows]), noughts)
                none = [noughts for row in rows]
                self.assert_row(ring, columns, mixture(ring, len(columns), none, multiples), noughts)

    def test_of_no_rows(self):
        for ring in RINGS:
            for many in range(5):
                self.assertEqual(mixture(ring, many, [], []), [[] for _ in range(many)])

    def test_over_no_columns(self):
        one = [(ONE, (1, 1))]
        self.assertEqual(mixture(TWO, 0, [[], []], [one, []]), [])

    def test_written_out(self):
        x, y = [(X, (1, 1))], [(Y, (1, 1))]
        less_y = [(Y, (-1, 1))]
        self.assertEqual(mixture(TWO, 1, [[x], [y]], [y, [(X, (-1, 1))]]), [[]])
        self.assertEqual(mixture(TWO, 2, [[x, y], [y, x]], [x, less_y]), [[((2, 0), (1, 1)), ((0, 2), (-1, 1))], []])


class Own(RowsCase):
    def test_lists_are_the_askers_own(self):
        for ring in RINGS[::3]:
            for columns in COLUMNS:
                for row, own in self.some_rows(ring, columns, 2):
                    noughts = [[] for _ in columns]
                    for other in (row, noughts):
                        check_own(self, lambda a, b: row_plus(ring, a, b), row, other)
                        check_own(self, lambda a, b: row_plus(ring, a, b), other, row)
                        check_own(self, lambda a, b: row_minus(ring, a, b), row, other)
                        check_own(self, lambda a, b: row_minus(ring, a, b), other, row)
                    unit = [((0,) * ring.letters(), ring.numbers().of(1))]
                    for factor in (unit, [], random_sum(self.chance, ring, [1])):
                        check_own(self, lambda a, b: row_times(ring, a, b), row, factor)
                        check_own(self, lambda a, b: mixture(ring, len(columns), a, b), [row], [factor])
                        check_own(self, lambda a, b: mixture(ring, len(columns), a, b), [row, row], [factor, factor])
                    check_own(self, lambda a, b: mixture(ring, 3, a, b), [], [])

    def test_asking_changes_nothing(self):
        for ring in RINGS[::3]:
            for columns in COLUMNS:
                for row, own in self.some_rows(ring, columns, 2):
                    check_own(self, lambda a, b: is_row(ring, a, b), columns, row)
                    check_own(self, lambda a, b: is_table(ring, a, b), columns, [row])
                    check_own(self, row_level, columns, row)
