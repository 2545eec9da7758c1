import copy
import itertools
import random
import unittest

from relationladder.errors import NoRung
from relationladder.ladders import Ladder
from relationladder.numbers import Fractions, Rests
from relationladder.struck import Struck
from relationladder.sums import Ring
from relationladder.wholes import whole
from tests.helpers import GREAT, check_refused, lists_within, spoil
from tests.reckoning import (
    COLUMNS, KINDS, check_nothing_left_out, check_row, check_table, levels_of, mixed, noughts, one, rank_at,
    same_mixtures, some_table, some_tables, terms_of_level,
)

TWO = Ring(Fractions(), 2)
THREE = Ring(Fractions(), 3)
X, Y = (1, 0), (0, 1)


class StruckCase(unittest.TestCase):
    def setUp(self):
        self.chance = random.Random(18)

    def check(self, ring, columns, table):
        ladder = Ladder(ring, columns, table)
        struck = Struck(ladder)
        self.check_thin(ring, columns, struck)
        self.check_maps(ring, ladder, struck)
        return struck

    def check_thin(self, ring, columns, struck):
        kept = struck.kept()
        self.assertEqual(kept, sorted(set(kept)))
        self.assertTrue(all(place in range(len(columns)) for place in kept))
        self.assertEqual(struck.columns(), [columns[place] for place in kept])
        rungs = struck.rungs()
        degrees = [sorted(struck.columns())]
        over = struck.columns()
        for rung, behind in zip(rungs, rungs[1:] + [(None, [])]):
            self.assertIs(type(rung), tuple)
            own, rows = rung
            self.assertEqual(own, over)
            check_table(self, ring, own, rows)
            self.assertNotEqual(rows, [])
            for product in [part[0] for row in rows for entry in row for part in entry]:
                self.assertGreater(sum(product), 0)
            over = levels_of(own, rows)
            degrees.append(sorted(over))
            for row in behind[1]:
                self.assertEqual(mixed(ring, len(own), rows, row), noughts(own))
            check_nothing_left_out(self, ring, own, rows, behind[1])
        self.assertEqual(struck.degrees(), degrees)

    def check_maps(self, ring, ladder, struck):
        rungs, thin = ladder.rungs(), struck.rungs()
        stands = [ladder.columns()] + [levels_of(own, rows) for own, rows in rungs]
        thin_stands = [struck.columns()] + [levels_of(own, rows) for own, rows in thin]
        thin_stands += [[] for _ in range(len(stands) - len(thin_stands))]
        self.assertEqual(len(thin_stands), len(stands))
        there = [struck.there(stand) for stand in range(len(stands))]
        back = [struck.back(stand) for stand in range(len(stands))]
        for stand, (own, thin_own) in enumerate(zip(stands, thin_stands)):
            self.check_map(ring, there[stand], own, thin_own)
            self.check_map(ring, back[stand], thin_own, own)
            for place, row in enumerate(back[stand]):
                self.assertEqual(mixed(ring, len(thin_own), there[stand], row), unit_row(ring, len(thin_own), place))
        for stand in range(1, len(stands)):
            rows = rungs[stand - 1][1]
            thin_rows = thin[stand - 1][1] if stand <= len(thin) else []
            self.check_along(ring, rows, there[stand - 1], thin_rows, there[stand], len(thin_stands[stand - 1]))
            self.check_along(ring, thin_rows, back[stand - 1], rows, back[stand], len(stands[stand - 1]))
        for number, place in enumerate(struck.kept()):
            self.assertEqual(there[0][place], unit_row(ring, len(thin_stands[0]), number))
            self.assertEqual(back[0][number], unit_row(ring, len(stands[0]), place))

    def check_map(self, ring, rows, degrees, over):
        self.assertIs(type(rows), list)
        self.assertEqual(len(rows), len(degrees))
        for row, own in zip(rows, degrees):
            check_row(self, ring, over, row, own)

    def check_along(self, ring, rows, beneath, other_rows, above, many):
        for row, mapped in zip(rows, above):
            self.assertEqual(mixed(ring, many, beneath, row), mixed(ring, many, other_rows, mapped))


class Thin(StruckCase):
    def test_drawn(self):
        for ring, columns, table in some_tables(self.chance, 2):
            self.check(ring, columns, table)

    def test_without_rows(self):
        for kind in KINDS:
            for letters in (1, 2, 3, 4):
                ring = Ring(kind, letters)
                for columns in COLUMNS:
                    struck = self.check(ring, columns, [])
                    self.assertEqual(struck.kept(), list(range(len(columns))))
                    self.assertEqual(struck.rungs(), [])
                    self.assertEqual(struck.degrees(), [sorted(columns)])
                    self.assertEqual(struck.there(0), struck.back(0))

    def test_numbers_alone(self):
        for kind in KINDS:
            for letters in (1, 2, 3, 4):
                ring = Ring(kind, letters)
                unit = [(one(ring), kind.of(1))]
                x = [((1,) + (0,) * (letters - 1), kind.of(1))]
                xx = [((2,) + (0,) * (letters - 1), kind.of(1))]
                self.assertEqual(self.check(ring, [4], [[unit]]).degrees(), [[]])
                self.assertEqual(self.check(ring, [4], [[x], [unit]]).degrees(), [[]])
                struck = self.check(ring, [0, 0], [[unit, unit], [x, []]])
                self.assertEqual(struck.degrees(), [[0], [1]])
                self.assertEqual(self.check(ring, [0, 0, 0], [[unit, unit, []], [[], unit, unit]]).degrees(), [[0]])
                struck = self.check(ring, [0, 1, 2], [[xx, x, unit], [x, unit, []], [unit, [], []]])
                self.assertEqual((struck.degrees(), struck.kept(), struck.columns(), struck.rungs()), ([[]], [], [], []))
                self.assertEqual(struck.there(0), [[], [], []])
                self.assertEqual(struck.back(0), [])
                struck = self.check(ring, [0, 1], [[xx, x]])
                self.assertEqual(struck.degrees(), [[0, 1], [2]])

    def test_drawn_numbers_alone(self):
        for kind in KINDS:
            for letters in (1, 2, 3):
                ring = Ring(kind, letters)
                for columns in ([0, 0], [0, 0, 0], [0, 1, 0], [1, 2, 3]):
                    for degrees in ((0,), (0, 1)):
                        table = some_table(self.chance, ring, columns, self.chance.randint(1, 5), degrees, 2)
                        self.check(ring, columns, table)

    def test_powers(self):
        for kind in KINDS:
            for letters in (1, 2, 3, 4):
                ring = Ring(kind, letters)
                rows = [[[(tuple((1 + own % 2) * (own == place) for own in range(letters)), kind.of(1))]]
                        for place in range(letters)]
                powers = [1 + own % 2 for own in range(letters)]
                degrees = [sorted(3 + sum(chosen) for chosen in itertools.combinations(powers, many))
                           for many in range(letters + 1)]
                for order in (rows, rows[::-1]):
                    self.assertEqual(self.check(ring, [3], order).degrees(), degrees)

    def test_written_out(self):
        table = [[[((2, 0), (1, 1))]], [[((1, 1), (1, 1))]], [[((0, 2), (1, 1))]]]
        self.assertEqual(self.check(TWO, [0], table).degrees(), [[0], [2, 2, 2], [3, 3]])
        # The whole table has a third row, which goes again.
        table = [[[((2, 0), (1, 1)), ((0, 2), (1, 1))]], [[((1, 1), (1, 1))]]]
        self.assertEqual(Ladder(TWO, [1], table).rungs()[0][1], whole(TWO, [1], table))
        self.assertEqual(len(whole(TWO, [1], table)), 3)
        self.assertEqual(self.check(TWO, [1], table).degrees(), [[1], [3, 3], [5]])

    def test_by_plain_counts(self):
        """The degrees, added and taken off by turns, tell how many terms each level has beyond the mixtures."""
        for ring, columns, table in some_tables(self.chance, columns_drawn=2):
            degrees = Struck(Ladder(ring, columns, table)).degrees()
            for level in range(min(columns), min(columns) + 6):
                terms = len(terms_of_level(ring, columns, level))
                if terms <= 150:
                    counted = terms - rank_at(ring, columns, table, level)
                    turns = sum((-1) ** turn * len(terms_of_level(ring, own, level)) for turn, own in enumerate(degrees))
                    self.assertEqual(turns, counted, (columns, table))


class Degrees(StruckCase):
    def test_same_mixtures(self):
        for ring, columns, table in some_tables(self.chance, 2):
            degrees = Struck(Ladder(ring, columns, table)).degrees()
            self.assertEqual(Struck(Ladder(ring, columns, whole(ring, columns, table))).degrees(), degrees)
            self.assertEqual(Struck(Ladder(ring, columns, table[::-1])).degrees(), degrees)
            for _ in range(2):
                changed = same_mixtures(self.chance, ring, columns, table)
                self.assertEqual(Struck(Ladder(ring, columns, changed)).degrees(), degrees, (table, changed))


class Stands(StruckCase):
    def test_no_such_stand(self):
        for ring, columns, table in some_tables(self.chance):
            ladder = Ladder(ring, columns, table)
            struck = Struck(ladder)
            for stand in (-1, ladder.many() + 1, ladder.many() + 2, GREAT, -GREAT, -ladder.many() - 1):
                check_refused(self, NoRung, lambda: struck.there(stand))
                check_refused(self, NoRung, lambda: struck.back(stand))

    def test_stands_without_places(self):
        """Of one part in four letters' table whose ladder is longer than what is left of it."""
        met = 0
        for ring, columns, table in some_tables(self.chance, 2, letters=(2, 3)):
            ladder = Ladder(ring, columns, table)
            struck = Struck(ladder)
            for stand in range(len(struck.rungs()) + 1, ladder.many() + 1):
                met += 1
                self.assertEqual(struck.back(stand), [])
                self.assertEqual(struck.there(stand), [[] for _ in ladder.rungs()[stand - 1][1]])
        self.assertGreater(met, 0)


class Large(StruckCase):
    def test_ten_figures_over_ten(self):
        for letters, columns, many in [(1, [0, 1], 4), (2, [0], 4), (2, [0, 1], 3), (3, [0], 3), (3, [1, 0], 3),
                                       (4, [0], 3), (4, [0, 0], 3)]:
            ring = Ring(Fractions(), letters)
            self.check(ring, columns, some_table(self.chance, ring, columns, many, (1, 2), 2, 10))

    def test_five_rows_over_three_columns(self):
        for kind in KINDS:
            for letters in (1, 2, 3, 4):
                ring = Ring(kind, letters)
                for columns in ([0, 0, 0], [0, 1, -1]):
                    table = some_table(self.chance, ring, columns, 5, (1,) if letters == 4 else (1, 2), 2)
                    self.check(ring, columns, table)


    def test_four_letters_three_columns_degree_two(self):
        for _ in range(2):
            ring = Ring(Rests(9973), 4)
            self.check(ring, [0, 0, 0], some_table(self.chance, ring, [0, 0, 0], 5, (2,), 2))


class Own(StruckCase):
    def ask(self, struck, many):
        told = [struck.kept(), struck.columns(), struck.rungs(), struck.degrees()]
        return told + [struck.there(stand) for stand in range(many)] + [struck.back(stand) for stand in range(many)]

    def test_told_again_so(self):
        for ring, columns, table in some_tables(self.chance, letters=(1, 2, 3)):
            ladder = Ladder(ring, columns, table)
            rungs = copy.deepcopy(ladder.rungs())
            struck = Struck(ladder)
            told = self.ask(struck, ladder.many() + 1)
            kept = copy.deepcopy(told)
            self.assertEqual(len({id(found) for found in lists_within(told)}), len(lists_within(told)))
            spoil(told)
            spoil((columns, table))
            spoil([ladder.rungs(), ladder.columns()])
            self.assertEqual(self.ask(struck, ladder.many() + 1), kept)
            self.assertEqual(self.ask(Struck(ladder), ladder.many() + 1), kept)
            self.assertEqual(ladder.rungs(), rungs)


def unit_row(ring, many, place):
    return [[(one(ring), ring.numbers().of(1))] if own == place else [] for own in range(many)]
