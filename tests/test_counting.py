import fractions
import functools
import random
import unittest

from relationladder.counting import count, count_polynomial, count_row
from relationladder.ladders import Ladder
from relationladder.numbers import Fractions, Rests
from relationladder.struck import Struck
from relationladder.sums import Ring
from relationladder.wholes import whole
from tests.helpers import check_own
from tests.reckoning import (
    COLUMNS, KINDS, is_under, levels_of, one, own_lead, rank_at, same_mixtures, some_table, some_tables, terms_of_level,
)

LETTERS = (1, 2, 3, 4)


def unit(ring):
    return [(one(ring), ring.numbers().of(1))]


def letter(ring, number, often=1):
    return [(tuple(often * (own == number) for own in range(ring.letters())), ring.numbers().of(1))]


def gone_through(ring, columns, rows, level):
    """The terms of the level under no row, one by one."""
    leads = [own_lead(row) for row in rows]
    terms = terms_of_level(ring, columns, level)
    return len([term for term in terms if not any(is_under(term, lead) for lead in leads)])


@functools.lru_cache(None)
def many_products(letters, degree):
    """By going through them, one letter after the other."""
    if degree < 0:
        return 0
    return 1 if letters == 1 else sum(many_products(letters - 1, own) for own in range(degree + 1))


def by_row(ring, row, level):
    return sum(number * many_products(ring.letters(), level - degree) for degree, number in row)


def by_turns(all_degrees):
    """The degrees of the lists, added and taken off by turns."""
    found = {}
    for turn, degrees in enumerate(all_degrees):
        for degree in degrees:
            found[degree] = found.get(degree, 0) + (-1) ** turn
    return sorted((degree, number) for degree, number in found.items() if number)


def worth(parts, level):
    return sum(fractions.Fraction(*part) * level ** power for power, part in enumerate(parts))


def drawn(seed, repeats=1):
    return list(some_tables(random.Random(seed), repeats))


class Count(unittest.TestCase):
    def test_by_going_through_all_terms(self):
        for ring, columns, table in drawn(211, 2):
            rows = whole(ring, columns, table)
            for level in range(min(columns) - 2, min(columns) + 8):
                told = count(ring, columns, table, level)
                self.assertIs(type(told), int)
                self.assertEqual(told, gone_through(ring, columns, rows, level), (columns, table, level))

    def test_around_columns_far_apart(self):
        chance = random.Random(212)
        for kind in KINDS:
            for letters in (1, 2, 3):
                ring = Ring(kind, letters)
                for columns in ([-20, 20], [20, -20, 0]):
                    table = some_table(chance, ring, columns, 4, (1, 2, 3))
                    rows = whole(ring, columns, table)
                    for level in list(range(-23, -16)) + list(range(-2, 3)) + list(range(18, 25)):
                        expected = gone_through(ring, columns, rows, level)
                        self.assertEqual(count(ring, columns, table, level), expected)

    def test_rows_needed_besides_the_mixtures(self):
        for ring, columns, table in drawn(213):
            for level in range(min(columns), min(columns) + 6):
                terms = len(terms_of_level(ring, columns, level))
                if terms <= 150:
                    needed = terms - rank_at(ring, columns, table, level)
                    self.assertEqual(count(ring, columns, table, level), needed)

    def test_all_levels(self):
        """From the bound to the bound; below the columns' 0."""
        for ring, columns, table in drawn(214):
            row = count_row(ring, columns, table)
            levels = (-100, -99, -21, min(columns) - 1, min(columns), 0, 7, 33, 99, 100)
            for level in levels:
                told = count(ring, columns, table, level)
                self.assertIs(type(told), int)
                self.assertEqual(told, sum(number * binomial(level - degree + ring.letters() - 1, ring.letters() - 1)
                                           for degree, number in row if level >= degree))
                if level < min(columns):
                    self.assertEqual(told, 0)

    def test_without_rows_all_terms_count(self):
        for letters in LETTERS:
            for columns in COLUMNS:
                ring = Ring(Rests(3), letters)
                for level in range(min(columns) - 2, min(columns) + 6):
                    self.assertEqual(count(ring, columns, [], level), len(terms_of_level(ring, columns, level)))
        self.assertEqual(count(Ring(Fractions(), 4), [0], [], 100), 103 * 102 * 101 // 6)
        self.assertEqual(count(Ring(Fractions(), 4), [-20, 20, 0], [], 100),
                         (123 * 122 * 121 + 83 * 82 * 81 + 103 * 102 * 101) // 6)

    def test_numbers_alone(self):
        for kind in KINDS:
            for letters in LETTERS:
                ring = Ring(kind, letters)
                for level in (-100, -1, 0, 1, 5, 100):
                    self.assertEqual(count(ring, [0], [[unit(ring)]], level), 0)
                    self.assertEqual(count(ring, [0, 0], [[[], unit(ring)], [unit(ring), []]], level), 0)
                    self.assertEqual(count(ring, [0, 1], [[letter(ring, 0), unit(ring)]], level),
                                     count(ring, [0], [], level))

    def test_written_out(self):
        ring = Ring(Fractions(), 2)
        # x^2 and x*y + y^2, and so y^3: 1 and x, y and two of degree two.
        table = [[letter(ring, 0, 2)], [[((1, 1), (1, 1)), ((0, 2), (1, 1))]]]
        self.assertEqual([count(ring, [0], table, level) for level in range(-1, 5)], [0, 1, 2, 1, 0, 0])
        self.assertEqual([count(ring, [-3], table, level) for level in range(-4, 2)], [0, 1, 2, 1, 0, 0])


class Row(unittest.TestCase):
    def check(self, ring, row):
        self.assertIs(type(row), list)
        for own in row:
            self.assertIs(type(own), tuple)
            self.assertEqual([type(part) for part in own], [int, int])
            self.assertNotEqual(own[1], 0)
        degrees = [degree for degree, number in row]
        self.assertEqual(degrees, sorted(set(degrees)))

    def test_counts_come_out(self):
        for ring, columns, table in drawn(221, 2):
            row = count_row(ring, columns, table)
            self.check(ring, row)
            rows = whole(ring, columns, table)
            for level in range(min(columns) - 2, min(columns) + 8):
                self.assertEqual(by_row(ring, row, level), gone_through(ring, columns, rows, level))

    def test_degrees_of_ladders_by_turns(self):
        for ring, columns, table in drawn(222, 2):
            row = count_row(ring, columns, table)
            ladder = Ladder(ring, columns, table)
            stands = [columns] + [levels_of(own, rows) for own, rows in ladder.rungs()]
            self.assertEqual(row, by_turns(stands))
            self.assertEqual(row, by_turns(Struck(ladder).degrees()))

    def test_same_mixtures(self):
        chance = random.Random(223)
        for ring, columns, table in some_tables(chance):
            row = count_row(ring, columns, table)
            self.assertEqual(count_row(ring, columns, whole(ring, columns, table)), row)
            self.assertEqual(count_row(ring, columns, same_mixtures(chance, ring, columns, table)), row)

    def test_without_rows(self):
        ring = Ring(Fractions(), 3)
        self.assertEqual(count_row(ring, [2, -5, 2], []), [(-5, 1), (2, 2)])
        self.assertEqual(count_row(ring, [], []), [])

    def test_all_counts_nought(self):
        for kind in KINDS:
            for letters in LETTERS:
                ring = Ring(kind, letters)
                self.assertEqual(count_row(ring, [7], [[unit(ring)]]), [])
                table = [[unit(ring), letter(ring, 0)], [[], unit(ring)]]
                self.assertEqual(count_row(ring, [1, 0], table), [])

    def test_written_out(self):
        ring = Ring(Rests(5), 2)
        self.assertEqual(count_row(ring, [0], [[letter(ring, 0, 2)], [letter(ring, 1, 3)]]),
                         [(0, 1), (2, -1), (3, -1), (5, 1)])
        self.assertEqual(count_row(ring, [0, 1], [[letter(ring, 0), unit(ring)]]), [(0, 1)])
        # The column of degree 1 and a row of level 1 take each other off.
        self.assertEqual(count_row(ring, [0, 1], [[letter(ring, 0), []]]), [(0, 1)])


class Polynomial(unittest.TestCase):
    def check(self, ring, columns, table):
        told = count_polynomial(ring, columns, table)
        row = count_row(ring, columns, table)
        if row == []:
            self.assertIsNone(told)
            return None
        self.assertIs(type(told), tuple)
        parts, start = told
        self.assertIs(type(parts), list)
        self.assertIs(type(start), int)
        for part in parts:
            self.assertIs(Fractions().is_number(part), True)
        self.assertTrue(parts == [] or parts[-1] != (0, 1))
        rows = whole(ring, columns, table)
        for level in range(start, min(start, row[0][0]) + 9):
            self.assertEqual(worth(parts, level), gone_through(ring, columns, rows, level), (columns, table, level))
        for level in list(range(start, row[-1][0] + 9)) + [100]:
            self.assertEqual(worth(parts, level), by_row(ring, row, level), (columns, table, level))
        self.assertNotEqual(worth(parts, start - 1), by_row(ring, row, start - 1), (columns, table))
        return told

    def test_drawn(self):
        noughts = 0
        for ring, columns, table in drawn(231, 3):
            told = self.check(ring, columns, table)
            noughts += told is not None and told[0] == []
        self.assertGreater(noughts, 0)

    def test_without_rows(self):
        ring = Ring(Rests(2), 1)
        self.assertEqual(count_polynomial(ring, [5], []), ([(1, 1)], 5))
        ring = Ring(Rests(2), 4)
        self.assertEqual(count_polynomial(ring, [0], []), ([(1, 1), (11, 6), (1, 1), (1, 6)], -3))
        self.assertEqual(count_polynomial(ring, [-20], [])[1], -23)
        self.assertEqual(count_polynomial(Ring(Rests(7), 2), [0, 3], []), ([(-1, 1), (2, 1)], 2))
        for kind in KINDS:
            for letters in LETTERS:
                for columns in COLUMNS:
                    told = self.check(Ring(kind, letters), columns, [])
                    self.assertEqual(told[1], max(columns) - letters + 1)
                    self.assertEqual(len(told[0]), letters)

    def test_counts_that_end(self):
        for kind in KINDS:
            for letters in LETTERS:
                ring = Ring(kind, letters)
                table = [[letter(ring, number, 2)] for number in range(letters)]
                self.assertEqual(self.check(ring, [3], table), ([], 4 + letters))
                self.assertEqual(self.check(ring, [-20], table), ([], letters - 19))

    def test_none(self):
        for kind in KINDS:
            for letters in LETTERS:
                ring = Ring(kind, letters)
                self.assertIsNone(count_polynomial(ring, [7], [[unit(ring)]]))
                self.assertIsNone(count_polynomial(ring, [0, 0], [[[], unit(ring)], [unit(ring), []]]))
        self.assertIsNone(count_polynomial(Ring(Fractions(), 2), [], []))

    def test_a_nought_within(self):
        # Products in x and y alone, without x^2: two at each level from 1 on, and one at 0.
        ring = Ring(Fractions(), 3)
        table = [[letter(ring, 0, 2)], [letter(ring, 2)]]
        self.assertEqual(self.check(ring, [0], table), ([(2, 1)], 1))
        # Two columns, and over each of them the products of two letters.
        table = [[letter(ring, 0), []], [[], letter(ring, 1)]]
        self.assertEqual(self.check(ring, [1, -1], table), ([(2, 1), (2, 1)], 0))
        self.assertEqual(self.check(ring, [2, 0], table), ([(0, 1), (2, 1)], 1))


class Large(unittest.TestCase):
    def test_five_rows_over_three_columns(self):
        chance = random.Random(241)
        for kind in (Fractions(), Rests(9973)):
            for letters, degrees in ((3, (2, 3)), (4, (2,)), (4, (1, 2))):
                ring = Ring(kind, letters)
                table = some_table(chance, ring, [0, 1, 0], 5, degrees, 2)
                row = count_row(ring, [0, 1, 0], table)
                for level in range(-1, 6):
                    terms = len(terms_of_level(ring, [0, 1, 0], level))
                    self.assertEqual(by_row(ring, row, level), terms - rank_at(ring, [0, 1, 0], table, level))
                    self.assertEqual(by_row(ring, row, level), count(ring, [0, 1, 0], table, level))

    def test_over_the_levels_of_a_table(self):
        for ring, columns, table in some_tables(random.Random(242), letters=(1, 2, 3)):
            for own, rows in Ladder(ring, columns, table).rungs()[1:]:
                row = count_row(ring, own, rows)
                for level in range(min(own), min(own) + 4):
                    terms = len(terms_of_level(ring, own, level))
                    if terms <= 150:
                        self.assertEqual(by_row(ring, row, level), terms - rank_at(ring, own, rows, level))


class Own(unittest.TestCase):
    def test_nothing_changes(self):
        for ring, columns, table in drawn(251):
            check_own(self, lambda own, rows: count(ring, own, rows, 3), columns, table)
            check_own(self, lambda own, rows: count_row(ring, own, rows), columns, table)
            check_own(self, lambda own, rows: count_polynomial(ring, own, rows), columns, table)


def binomial(above, below):
    found = fractions.Fraction(1)
    for step in range(below):
        found = found * (above - step) / (step + 1)
    return int(found)
