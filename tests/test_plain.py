import fractions
import itertools
import random
import unittest

from relationladder.counting import count
from relationladder.ladders import Ladder
from relationladder.numbers import Fractions, Rests
from relationladder.plain import plain_count, plain_degrees, rank
from relationladder.struck import Struck
from relationladder.sums import Ring
from tests.helpers import GREAT, as_number, check_own
from tests.reckoning import (
    COLUMNS, KINDS, multiples_at, one, rank_at, same_mixtures, some_number, some_table, some_tables, terms_of_level,
)
from tests.reckoning import rank as own_rank

LETTERS = (1, 2, 3, 4)


def drawn(seed, repeats=1):
    return list(some_tables(random.Random(seed), repeats))


def unit(ring):
    return [(one(ring), ring.numbers().of(1))]


def letter(ring, number, often=1):
    return [(tuple(often * (own == number) for own in range(ring.letters())), ring.numbers().of(1))]


def made_of(chance, numbers, lists):
    """The lists times numbers, added."""
    prime = numbers.prime()
    found = [fractions.Fraction(0) for _ in lists[0]]
    for own in lists:
        factor = chance.choice([0, 1, 1, -1, 2, fractions.Fraction(GREAT, 3) if not prime else GREAT])
        found = [have + factor * (more if prime else fractions.Fraction(*more)) for have, more in zip(found, own)]
    return [have.numerator % prime if prime else (have.numerator, have.denominator) for have in found]


class Rank(unittest.TestCase):
    def some_list(self, chance, numbers, length, figures=0):
        ring = Ring(numbers, 1)
        found = [some_number(chance, ring, figures) if chance.random() < 0.7 else fractions.Fraction(0)
                 for _ in range(length)]
        return [as_number(ring, fractions.Fraction(number) if not numbers.prime() else int(number)) for number in found]

    def check(self, numbers, lists, expected):
        told = rank(numbers, lists)
        self.assertIs(type(told), int)
        self.assertEqual(told, expected, lists)
        self.assertLessEqual(told, len(lists))
        self.assertTrue(lists == [] or told <= len(lists[0]))

    def test_none_and_noughts(self):
        for numbers in KINDS:
            nought = numbers.of(0)
            self.check(numbers, [], 0)
            self.check(numbers, [[]], 0)
            self.check(numbers, [[], [], []], 0)
            self.check(numbers, [[nought]], 0)
            self.check(numbers, [[nought, nought, nought]] * 4, 0)
            self.check(numbers, [[nought, numbers.of(1)], [nought, nought]], 1)
            self.check(numbers, [[nought, nought], [nought, numbers.of(1)]], 1)

    def test_drawn(self):
        chance = random.Random(241)
        for numbers in KINDS:
            for figures in (0, 3, 30):
                for _ in range(30):
                    length = chance.randint(1, 6)
                    lists = [self.some_list(chance, numbers, length, figures) for _ in range(chance.randint(1, 6))]
                    expected = own_rank(Ring(numbers, 1), [as_vector(numbers, own) for own in lists])
                    self.check(numbers, lists, expected)
                    more = lists + [made_of(chance, numbers, lists) for _ in range(3)]
                    more.insert(0, list(chance.choice(lists)))
                    for _ in range(3):
                        chance.shuffle(more)
                        self.check(numbers, more, expected)

    def test_by_determinants(self):
        """Three lists of three rests: the rank is 3 just where the determinant is not nought, and so on."""
        for prime in (2, 3):
            numbers = Rests(prime)
            rows = list(itertools.product(range(prime), repeat=2))
            for lists in itertools.product(rows, repeat=2):
                determinant = (lists[0][0] * lists[1][1] - lists[0][1] * lists[1][0]) % prime
                expected = 2 if determinant else 1 if any(lists[0] + lists[1]) else 0
                self.check(numbers, [list(own) for own in lists], expected)

    def test_alike_and_multiples(self):
        numbers = Fractions()
        own = [(1, 2), (-3, 1), (0, 1), (GREAT, 7)]
        thrice = [(3, 2), (-9, 1), (0, 1), (3 * GREAT, 7)]
        self.check(numbers, [own, own, own], 1)
        self.check(numbers, [own, thrice], 1)
        nearly = thrice[:3] + [(3 * GREAT + 7, 7)]
        self.check(numbers, [own, nearly], 2)
        self.check(numbers, [own, nearly, thrice, [(0, 1), (0, 1), (0, 1), (5, 1)]], 2)

    def test_a_prime_decides(self):
        """As fractions 2 of 2, by 5 just 1."""
        self.check(Fractions(), [[(1, 1), (2, 1)], [(3, 1), (11, 1)]], 2)
        self.check(Rests(5), [[1, 2], [3, 1]], 1)
        self.check(Rests(7), [[1, 2], [3, 4]], 2)

    def test_thirty_and_three_hundred_figures(self):
        chance = random.Random(242)
        for figures in (30, 300):
            lists = [self.some_list(chance, Fractions(), 6, figures) for _ in range(4)]
            self.check(Fractions(), lists, 4)
            self.check(Fractions(), lists + [made_of(chance, Fractions(), lists)], 4)
            self.check(Fractions(), [lists[0], lists[0], lists[2]], 2)

    def test_many(self):
        chance = random.Random(243)
        for numbers in KINDS:
            lists = [self.some_list(chance, numbers, 30) for _ in range(20)]
            expected = own_rank(Ring(numbers, 1), [as_vector(numbers, own) for own in lists])
            self.check(numbers, lists + [made_of(chance, numbers, lists) for _ in range(20)], expected)

    def test_own(self):
        chance = random.Random(244)
        for numbers in KINDS:
            lists = [self.some_list(chance, numbers, 4) for _ in range(3)]
            check_own(self, lambda handed: rank(numbers, handed), lists)


class PlainCount(unittest.TestCase):
    def test_is_the_count(self):
        for ring, columns, table in drawn(251, 2):
            for level in range(min(columns) - 2, min(columns) + 8):
                told = plain_count(ring, columns, table, level)
                self.assertIs(type(told), int)
                self.assertEqual(told, count(ring, columns, table, level), (columns, table, level))

    def test_by_another_rank(self):
        for ring, columns, table in drawn(252):
            for level in range(min(columns), min(columns) + 6):
                terms = len(terms_of_level(ring, columns, level))
                if terms <= 150:
                    needed = terms - rank_at(ring, columns, table, level)
                    self.assertEqual(plain_count(ring, columns, table, level), needed)

    def test_to_the_bound(self):
        for ring, columns, table in drawn(253):
            for level in (-100, min(columns) - 1, min(columns) + 12):
                self.assertEqual(plain_count(ring, columns, table, level), count(ring, columns, table, level))

    def test_numbers_alone_and_no_rows(self):
        for kind in KINDS:
            for letters in LETTERS:
                ring = Ring(kind, letters)
                for level in (-1, 0, 1, 4):
                    self.assertEqual(plain_count(ring, [0], [[unit(ring)]], level), 0)
                    self.assertEqual(plain_count(ring, [0, 1], [[letter(ring, 0), unit(ring)]], level),
                                     len(terms_of_level(ring, [0], level)))
                    for columns in COLUMNS:
                        own = level + min(columns)
                        self.assertEqual(plain_count(ring, columns, [], own), len(terms_of_level(ring, columns, own)))


class PlainDegrees(unittest.TestCase):
    def check(self, ring, columns, table, most):
        told = plain_degrees(ring, columns, table, most)
        self.assertIs(type(told), list)
        self.assertEqual(len(told), ring.letters() + 1)
        for degrees in told:
            self.assertIs(type(degrees), list)
            self.assertEqual(degrees, sorted(degrees))
        thin = Struck(Ladder(ring, columns, table)).degrees()
        thin += [[] for _ in range(ring.letters() + 1 - len(thin))]
        self.assertEqual(told, [[own for own in degrees if own <= most] for degrees in thin], (columns, table, most))
        return told

    def test_are_those_of_the_struck_out_ladder(self):
        for ring, columns, table in drawn(254, 2):
            for above in (-2, -1, 0, 1, 2, 3, 5, 8, 12):
                self.check(ring, columns, table, min(columns) + above)

    def test_written_out(self):
        ring = Ring(Rests(3), 2)
        table = [[letter(ring, 0, 2)], [letter(ring, 1, 3)]]
        for most, expected in [(-1, [[], [], []]), (0, [[0], [], []]), (2, [[0], [2], []]), (3, [[0], [2, 3], []]),
                               (4, [[0], [2, 3], []]), (5, [[0], [2, 3], [5]]), (9, [[0], [2, 3], [5]])]:
            self.assertEqual(plain_degrees(ring, [0], table, most), expected)
        ring = Ring(Fractions(), 3)
        table = [[letter(ring, number)] for number in range(3)]
        self.assertEqual(plain_degrees(ring, [-4], table, 0), [[-4], [-3] * 3, [-2] * 3, [-1]])

    def test_by_the_words_of_the_document(self):
        """Each choice's rows led on, with mixtures beside, by ranks in the test."""
        chance = random.Random(255)
        for kind in KINDS:
            for letters, columns in ((1, [0, 1]), (2, [0, 0]), (2, [1, -1]), (3, [0]), (3, [0, 1])):
                ring = Ring(kind, letters)
                table = some_table(chance, ring, columns, 3, (0, 1, 2))
                most = min(columns) + 4
                self.assertEqual(plain_degrees(ring, columns, table, most), by_words(ring, columns, table, most))

    def test_numbers_alone_and_no_rows(self):
        for kind in KINDS:
            for letters in LETTERS:
                ring = Ring(kind, letters)
                self.assertEqual(self.check(ring, [0], [[unit(ring)]], 3), [[] for _ in range(letters + 1)])
                self.check(ring, [0, 1], [[letter(ring, 0), unit(ring)]], 4)
                self.check(ring, [1, 1, 0], [[unit(ring), unit(ring), letter(ring, 0)]], 4)
                for columns in COLUMNS:
                    told = self.check(ring, columns, [], min(columns) + 4)
                    self.assertEqual(told[1:], [[] for _ in range(letters)])

    def test_over_no_columns(self):
        ring = Ring(Fractions(), 2)
        self.assertEqual(plain_degrees(ring, [], [], 5), [[], [], []])
        self.assertEqual(plain_count(ring, [], [], 5), 0)

    def test_same_mixtures(self):
        chance = random.Random(256)
        for ring, columns, table in some_tables(chance):
            changed = same_mixtures(chance, ring, columns, table)
            most = min(columns) + 6
            self.assertEqual(plain_degrees(ring, columns, changed, most), plain_degrees(ring, columns, table, most))

    def test_five_rows_and_many_figures(self):
        chance = random.Random(257)
        for letters, columns, many, figures in [
                (4, [0, 0, 0], 5, 0), (4, [0, 1, -1], 5, 0), (3, [0], 3, 10), (4, [0], 3, 10), (2, [0, 1], 3, 10),
                (3, [0, 0, 0], 5, 0), (2, [0, 0], 5, 30)]:
            ring = Ring(Fractions(), letters)
            self.check(ring, columns, some_table(chance, ring, columns, many, (1, 2), 2, figures), min(columns) + 8)

    def test_own(self):
        for ring, columns, table in drawn(258):
            check_own(self, lambda own, rows: plain_degrees(ring, own, rows, 3), columns, table)
            check_own(self, lambda own, rows: plain_count(ring, own, rows, 3), columns, table)


def as_vector(numbers, own):
    return {place: number if numbers.prime() else fractions.Fraction(*number) for place, number in enumerate(own)}


def by_words(ring, columns, table, most):
    letters = ring.letters()
    found = [[] for _ in range(letters + 1)]
    for level in range(min(columns), most + 1):
        for many in range(letters + 1):
            often = led_rows(ring, columns, table, level, many) - led_rank(ring, columns, table, level, many)
            often -= led_rank(ring, columns, table, level, many + 1)
            found[many] += [level] * often
    return found


def led_rows(ring, columns, table, level, many):
    choices = len(list(itertools.combinations(range(ring.letters()), many)))
    own = level - many
    return choices * (len(terms_of_level(ring, columns, own)) - rank_at(ring, columns, table, own))


def led_rank(ring, columns, table, level, many):
    """The rank of what comes of choices of so many letters, with all mixtures beside it, less that of the mixtures."""
    if not 1 <= many <= ring.letters():
        return 0
    beside = []
    for choice in itertools.combinations(range(ring.letters()), many - 1):
        for terms in multiples_at(ring, columns, table, level - many + 1):
            beside.append({(choice, term): number for term, number in terms.items()})
    led = []
    for choice in itertools.combinations(range(ring.letters()), many):
        for place, product in terms_of_level(ring, columns, level - many):
            vector = {}
            for number, own in enumerate(choice):
                raised = product[:own] + (product[own] + 1,) + product[own + 1:]
                vector[choice[:number] + choice[number + 1:], (place, raised)] = (-1) ** number
            led.append(vector)
    return own_rank(ring, beside + led) - own_rank(ring, beside)
