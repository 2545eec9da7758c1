import fractions
import itertools
import random
import unittest

from relationladder.counting import count_polynomial, count_row
from relationladder.errors import NoTurn
from relationladder.ladders import Ladder
from relationladder.numbers import Fractions, Rests
from relationladder.plain import plain_degrees
from relationladder.products import all_products
from relationladder.rows import is_table
from relationladder.struck import Struck
from relationladder.sums import Ring, is_sum
from relationladder.turns import turned_sum, turned_table
from tests.helpers import (
    GREAT, ODD_THINGS, RINGS, as_number, as_sum, check_own, check_refused, dict_plus, dict_times, random_sum, value,
)
from tests.reckoning import levels_of, one, some_number, some_sum, some_tables


def staying(ring):
    return [[ring.numbers().of(int(own == place)) for place in range(ring.letters())] for own in range(ring.letters())]


def values_of(ring, turn):
    return [[value(ring, number) for number in own] for own in turn]


def determinant(rows):
    if not rows:
        return 1
    found = 0
    for place, number in enumerate(rows[0]):
        rest = [own[:place] + own[place + 1:] for own in rows[1:]]
        found += (-1) ** place * number * determinant(rest)
    return found


def is_nought(ring, number):
    return number % ring.numbers().prime() == 0 if ring.numbers().prime() else number == 0


def some_turn(chance, ring, figures=0):
    letters = ring.letters()
    while True:
        found = [[some_number(chance, ring, figures) if chance.random() < 0.7 else 0 for _ in range(letters)]
                 for _ in range(letters)]
        if not is_nought(ring, determinant(found)):
            return as_turn(ring, found)


def as_turn(ring, rows):
    prime = ring.numbers().prime()
    return [[as_number(ring, number if prime else fractions.Fraction(number)) for number in own] for own in rows]


def undoing(ring, turn):
    """By determinants with a row and a column left out."""
    rows = values_of(ring, turn)
    whole = determinant(rows)
    prime = ring.numbers().prime()
    over = pow(whole, -1, prime) if prime else 1 / fractions.Fraction(whole)
    places = range(ring.letters())
    found = [[(-1) ** (own + place) * over * determinant([
        [number for column, number in enumerate(row) if column != own] for line, row in enumerate(rows) if line != place
    ]) for place in places] for own in places]
    return as_turn(ring, found)


def multiplied_out(ring, turn, summed):
    """Letter by letter, with dicts."""
    letters = ring.letters()
    puts = [{tuple(int(own == place) for own in range(letters)): number for place, number in enumerate(row)}
            for row in values_of(ring, turn)]
    found = {}
    for product, number in summed:
        part = {(0,) * letters: value(ring, number)}
        for own, often in enumerate(product):
            for _ in range(often):
                part = dict_times(part, puts[own])
        found = dict_plus(found, part)
    return as_sum(ring, found)


class TurnsCase(unittest.TestCase):
    def setUp(self):
        self.chance = random.Random(28)


class Sums(TurnsCase):
    def test_multiplied_out(self):
        for ring in RINGS:
            for figures in (0, 0, 0, 0, 30):
                turn = some_turn(self.chance, ring, figures)
                for degrees in ([0], [1], [3], [4], [0, 1, 2, 3]):
                    summed = random_sum(self.chance, ring, degrees, 8)
                    told = turned_sum(ring, turn, summed)
                    self.assertIs(is_sum(ring, told), True)
                    self.assertEqual(told, multiplied_out(ring, turn, summed))

    def test_nought_and_numbers(self):
        for ring in RINGS:
            turn = some_turn(self.chance, ring)
            self.assertEqual(turned_sum(ring, turn, []), [])
            lone = [(one(ring), ring.numbers().of(1))]
            self.assertEqual(turned_sum(ring, turn, lone), lone)

    def test_each_letter_stays(self):
        for ring in RINGS:
            for degrees in ([2], [0, 3], [24]):
                summed = random_sum(self.chance, ring, degrees, 6)
                self.assertEqual(turned_sum(ring, staying(ring), summed), summed)

    def test_letters_become_their_lists(self):
        """Not the other way round: the list of a letter is what it becomes."""
        ring = Ring(Fractions(), 2)
        turn = [[(1, 1), (5, 2)], [(0, 1), (-3, 1)]]
        self.assertEqual(turned_sum(ring, turn, [((1, 0), (1, 1))]), [((1, 0), (1, 1)), ((0, 1), (5, 2))])
        self.assertEqual(turned_sum(ring, turn, [((0, 1), (1, 1))]), [((0, 1), (-3, 1))])
        self.assertEqual(turned_sum(ring, turn, [((1, 1), (2, 1))]), [((1, 1), (-6, 1)), ((0, 2), (-15, 1))])

    def test_at_once(self):
        """Letters exchanged are not put twice."""
        ring = Ring(Rests(7), 3)
        turn = [[0, 1, 0], [0, 0, 1], [1, 0, 0]]
        self.assertEqual(turned_sum(ring, turn, [((3, 2, 1), 4), ((3, 0, 0), 1)]), [((1, 3, 2), 4), ((0, 3, 0), 1)])

    def test_turned_back(self):
        for ring in RINGS:
            for figures in (0, 10):
                turn = some_turn(self.chance, ring, figures)
                back = undoing(ring, turn)
                for degrees in ([1], [3], [0, 2, 4]):
                    summed = random_sum(self.chance, ring, degrees, 6)
                    self.assertEqual(turned_sum(ring, back, turned_sum(ring, turn, summed)), summed)
                    self.assertEqual(turned_sum(ring, turn, turned_sum(ring, back, summed)), summed)

    def test_high_degrees(self):
        for ring in (Ring(Fractions(), 2), Ring(Rests(9973), 3), Ring(Rests(2), 4), Ring(Fractions(), 1)):
            turn = some_turn(self.chance, ring)
            summed = random_sum(self.chance, ring, [24], 3)
            self.assertEqual(turned_sum(ring, undoing(ring, turn), turned_sum(ring, turn, summed)), summed)
        ring = Ring(Fractions(), 2)
        told = turned_sum(ring, [[(1, 1), (1, 1)], [(0, 1), (1, 1)]], [((24, 0), (1, 1))])
        self.assertEqual([number for product, number in told][:4], [(1, 1), (24, 1), (276, 1), (2024, 1)])
        self.assertEqual([product for product, number in told], all_products(2, 24))

    def test_a_hundred_parts(self):
        ring = Ring(Rests(9973), 4)
        turn = some_turn(self.chance, ring)
        summed = as_sum(ring, {product: 1 for product in self.chance.sample(all_products(4, 10), 100)})
        self.assertEqual(turned_sum(ring, undoing(ring, turn), turned_sum(ring, turn, summed)), summed)


class Tables(TurnsCase):
    def test_entry_by_entry(self):
        for ring, columns, table in some_tables(self.chance):
            turn = some_turn(self.chance, ring)
            told = turned_table(ring, turn, table)
            self.assertEqual(told, [[multiplied_out(ring, turn, entry) for entry in row] for row in table])
            self.assertIs(is_table(ring, columns, told), True)
            self.assertEqual(levels_of(columns, told), levels_of(columns, table))
            self.assertEqual(turned_table(ring, undoing(ring, turn), told), table)
            self.assertEqual(turned_table(ring, staying(ring), table), table)

    def test_counts_and_degrees_stay(self):
        for ring, columns, table in some_tables(self.chance, columns_drawn=2):
            # A turn with few numbers: else whole tables in the told order are soon beyond any wait.
            turn = staying(ring)
            turn[0][-1] = ring.numbers().of(1) if ring.letters() > 1 else turn[0][0]
            self.chance.shuffle(turn)
            for own in (turn, some_turn(self.chance, ring)):
                told = turned_table(ring, own, table)
                self.assertEqual(count_row(ring, columns, told), count_row(ring, columns, table))
                self.assertEqual(count_polynomial(ring, columns, told), count_polynomial(ring, columns, table))
                most = min(columns) + 6
                self.assertEqual(plain_degrees(ring, columns, told, most), plain_degrees(ring, columns, table, most))
            if ring.letters() < 4:
                told = turned_table(ring, turn, table)
                self.assertEqual(Struck(Ladder(ring, columns, told)).degrees(),
                                 Struck(Ladder(ring, columns, table)).degrees())

    def test_rows_of_noughts_among_sums(self):
        ring = Ring(Rests(5), 2)
        turn = [[1, 1], [0, 1]]
        self.assertEqual(turned_table(ring, turn, []), [])
        self.assertEqual(turned_table(ring, turn, [[[((1, 0), 2)], []]]), [[[((1, 0), 2), ((0, 1), 2)], []]])


class NoTurns(TurnsCase):
    def check(self, ring, thing):
        summed = some_sum(self.chance, ring, 2, 2)
        check_refused(self, NoTurn, lambda: turned_sum(ring, thing, summed))
        check_refused(self, NoTurn, lambda: turned_sum(ring, thing, []))
        check_refused(self, NoTurn, lambda: turned_table(ring, thing, [[summed]]))
        check_refused(self, NoTurn, lambda: turned_table(ring, thing, []))

    def test_odd_things(self):
        for ring in RINGS:
            for thing in ODD_THINGS + [[], 0, 1, GREAT, {}, [[]], [[[]]]]:
                self.check(ring, thing)

    def test_other_lengths(self):
        for ring in RINGS:
            turn = some_turn(self.chance, ring)
            nought, lone = ring.numbers().of(0), ring.numbers().of(1)
            self.check(ring, turn + [list(turn[0])])
            self.check(ring, turn[1:])
            self.check(ring, [own + [nought] for own in turn])
            self.check(ring, [own + [lone] for own in turn])
            self.check(ring, [own[1:] for own in turn])
            self.check(ring, turn[:-1] + [turn[-1] + [nought]])
            self.check(ring, turn[:-1] + [turn[-1][1:]])

    def test_no_lists(self):
        for ring in RINGS:
            turn = some_turn(self.chance, ring)
            self.check(ring, tuple(turn))
            self.check(ring, [tuple(own) for own in turn])
            self.check(ring, turn[:-1] + [tuple(turn[-1])])
            self.check(ring, turn[:-1] + [None])
            self.check(ring, turn[:-1] + ["x" * ring.letters()])
            self.check(ring, "x" * ring.letters())

    def test_no_numbers_of_the_ring(self):
        for ring in RINGS:
            prime = ring.numbers().prime()
            wrong = [None, "1", True, False, [], (), 1.0, (1,), (1, 1, 1), (2, 4), (1, 0), (1, -1), (True, 1), [1, 1]]
            wrong += [-1, prime, prime + 1, GREAT, (1, 1), (0, 1)] if prime else [0, 1, -1, (0, 2), (GREAT, GREAT)]
            for number in wrong:
                for own, place in itertools.product(range(ring.letters()), repeat=2):
                    turn = staying(ring)
                    turn[own][place] = number
                    self.check(ring, turn)

    def test_lists_made_of_others(self):
        for ring in RINGS:
            letters, numbers = ring.letters(), ring.numbers()
            self.check(ring, [[numbers.of(0)] * letters for _ in range(letters)])
            turn = some_turn(self.chance, ring)
            self.check(ring, turn[:-1] + [[numbers.of(0)] * letters])
            if letters > 1:
                self.check(ring, turn[:-1] + [list(turn[0])])
                turn[0] = [numbers.times(number, numbers.of(GREAT)) for number in turn[1]]
                self.check(ring, turn)
            if letters > 2:
                turn = some_turn(self.chance, ring)
                turn[2] = [numbers.minus(first, second) for first, second in zip(turn[0], turn[1])]
                self.check(ring, turn)

    def test_a_prime_decides(self):
        self.assertEqual(turned_sum(Ring(Rests(7), 2), [[1, 2], [3, 1]], []), [])
        self.check(Ring(Rests(5), 2), [[1, 2], [3, 1]])


class Own(TurnsCase):
    def test_own(self):
        for ring, columns, table in some_tables(self.chance):
            turn = some_turn(self.chance, ring)
            check_own(self, lambda own, handed: turned_table(ring, own, handed), turn, table)
            check_own(self, lambda own, handed: turned_table(ring, own, handed), staying(ring), table)
            summed = some_sum(self.chance, ring, 2, 2)
            check_own(self, lambda own, handed: turned_sum(ring, own, handed), turn, summed)
            check_own(self, lambda own, handed: turned_sum(ring, own, handed), staying(ring), summed)
