import copy
import itertools
import random
import unittest

from relationladder.errors import NoRelation, NoRung
from relationladder.ladders import Ladder
from relationladder.numbers import Fractions
from relationladder.sums import Ring
from relationladder.wholes import whole
from tests.helpers import GREAT, check_refused, lists_within, spoil
from tests.reckoning import (
    COLUMNS, KINDS, check_nothing_left_out, check_row, check_table, level_of, levels_of, mixed, noughts, one,
    some_mixture, some_row, some_table, some_tables,
)

TWO = Ring(Fractions(), 2)
X, Y = (1, 0), (0, 1)


class LaddersCase(unittest.TestCase):
    def setUp(self):
        self.chance = random.Random(16)

    def check(self, ring, columns, table):
        ladder = Ladder(ring, columns, table)
        self.assertIs(ladder.ring(), ring)
        self.assertEqual(ladder.columns(), columns)
        rungs = ladder.rungs()
        self.assertIs(type(rungs), list)
        self.assertEqual(ladder.many(), len(rungs))
        self.assertLessEqual(len(rungs), ring.letters())
        full = whole(ring, columns, table)
        self.assertEqual(rungs[:1], [(columns, full)] if table else [])
        over = columns
        for rung, behind in zip(rungs, rungs[1:] + [(None, [])]):
            self.assertIs(type(rung), tuple)
            own, rows = rung
            self.assertEqual(own, over)
            check_table(self, ring, own, rows)
            self.assertNotEqual(rows, [])
            over = levels_of(own, rows)
            for row in behind[1]:
                self.assertEqual(mixed(ring, len(own), rows, row), noughts(own), (columns, table))
            check_nothing_left_out(self, ring, own, rows, behind[1])
        return ladder

    def check_told(self, ring, columns, table):
        ladder = Ladder(ring, columns, table)
        rungs = ladder.rungs()
        for number, (own, rows) in enumerate(rungs):
            levels = levels_of(own, rows)
            behind = rungs[number + 1][1] if number + 1 < len(rungs) else []
            self.assertEqual(ladder.told(number + 1, noughts(levels)), noughts(behind))
            for row in behind[:3] + [some_mixture(self.chance, ring, levels, behind)[1] for _ in behind[:2]]:
                multiples = ladder.told(number + 1, row)
                check_row(self, ring, levels_of(levels, behind), multiples, level_of(levels, row))
                self.assertEqual(mixed(ring, len(levels), behind, multiples), row)
            self.check_no_relation(ring, ladder, number + 1, own, rows, levels)

    def check_no_relation(self, ring, ladder, number, own, rows, levels):
        lone = noughts(levels)
        lone[self.chance.randrange(len(levels))] = [(one(ring), ring.numbers().of(1))]
        drawn = some_row(self.chance, ring, levels, self.chance.choice(levels) + 1, 1)
        for row in (lone, drawn):
            if any(row) and any(mixed(ring, len(own), rows, row)):
                check_refused(self, NoRelation, lambda: ladder.told(number, row))


class Ladders(LaddersCase):
    def test_drawn(self):
        for ring, columns, table in some_tables(self.chance, 2):
            self.check(ring, columns, table)

    def test_no_rows_no_rungs(self):
        for kind in KINDS:
            for letters in (1, 2, 3, 4):
                for columns in COLUMNS:
                    ladder = self.check(Ring(kind, letters), columns, [])
                    self.assertEqual(ladder.many(), 0)
                    self.assertEqual(ladder.rungs(), [])

    def test_a_power_for_each_letter(self):
        for kind in KINDS:
            for letters in (1, 2, 3, 4):
                ring = Ring(kind, letters)
                rows = [[[(tuple((2 + own % 2) * (own == place) for own in range(letters)), some_number_of(kind, place))]]
                        for place in range(letters)]
                for order in list(itertools.permutations(rows))[:6]:
                    self.assertEqual(self.check(ring, [7], copy.deepcopy(list(order))).many(), letters)

    def test_of_whole_tables(self):
        for ring, columns, table in some_tables(self.chance, letters=(1, 2, 3), columns_drawn=2):
            self.assertEqual(Ladder(ring, columns, whole(ring, columns, table)).rungs()[:1],
                             Ladder(ring, columns, table).rungs()[:1])

    def test_over_the_levels_of_a_table(self):
        for ring, columns, table in some_tables(self.chance, letters=(2, 3), columns_drawn=2):
            rungs = Ladder(ring, columns, table).rungs()
            for own, rows in rungs[1:]:
                self.check(ring, own, rows)

    def test_written_out(self):
        ladder = self.check(TWO, [0], [[[(X, (2, 1))]], [[(Y, (1, 1))]]])
        self.assertEqual(ladder.many(), 2)
        self.assertEqual(ladder.rungs()[0], ([0], [[[(X, (1, 1))]], [[(Y, (1, 1))]]]))
        self.assertEqual(ladder.rungs()[1][0], [1, 1])
        self.assertEqual(len(ladder.rungs()[1][1]), 1)

    def test_numbers_alone(self):
        ring = Ring(Fractions(), 3)
        unit = [((0, 0, 0), (1, 1))]
        self.assertEqual(self.check(ring, [0], [[unit]]).many(), 1)
        self.assertEqual(self.check(ring, [0, 0], [[unit, []], [[], unit]]).many(), 1)
        self.check(ring, [0, 1], [[[((1, 0, 0), (1, 1))], unit], [[((0, 1, 0), (1, 1))], unit]])


class Told(LaddersCase):
    def test_drawn(self):
        for ring, columns, table in some_tables(self.chance, 2):
            self.check_told(ring, columns, table)

    def test_last_rung(self):
        for ring, columns, table in some_tables(self.chance):
            ladder = Ladder(ring, columns, table)
            if ladder.many():
                own, rows = ladder.rungs()[-1]
                self.assertEqual(ladder.told(ladder.many(), noughts(rows)), [])
                row = noughts(rows)
                row[0] = [((1,) * ring.letters(), ring.numbers().of(1))]
                check_refused(self, NoRelation, lambda: ladder.told(ladder.many(), row))

    def test_no_such_rung(self):
        for ring, columns, table in some_tables(self.chance):
            ladder = Ladder(ring, columns, table)
            rungs = ladder.rungs()
            stray = [[(one(ring), ring.numbers().of(1))]]
            rows = [stray, [], noughts(rungs[0][1]) if rungs else [], stray * (len(rungs[0][1]) if rungs else 1)]
            for number in (0, -1, ladder.many() + 1, GREAT, -GREAT, ladder.many() + 7):
                for row in rows:
                    check_refused(self, NoRung, lambda: ladder.told(number, row))

    def test_written_out(self):
        ladder = Ladder(TWO, [0], [[[((2, 0), (1, 1))]], [[((1, 1), (1, 1))]], [[((0, 2), (1, 1))]]])
        relation = [[((0, 2), (3, 1))], [], [((2, 0), (-3, 1))]]
        rows = ladder.rungs()[1][1]
        multiples = ladder.told(1, relation)
        self.assertEqual(mixed(TWO, 3, rows, multiples), relation)
        check_refused(self, NoRelation, lambda: ladder.told(1, [[((0, 2), (3, 1))], [], [((2, 0), (3, 1))]]))


class Large(LaddersCase):
    def test_ten_figures_over_ten(self):
        for letters, columns, many in [(1, [0, 1], 4), (2, [0], 4), (2, [0, 1], 3), (3, [0], 3), (3, [1, 0], 3),
                                       (4, [0], 3), (4, [0, 0], 3)]:
            ring = Ring(Fractions(), letters)
            table = some_table(self.chance, ring, columns, many, (1, 2), 2, 10)
            self.check(ring, columns, table)
            self.check_told(ring, columns, table)

    def test_five_rows_over_three_columns(self):
        for kind in KINDS:
            for letters in (1, 2, 3, 4):
                ring = Ring(kind, letters)
                for columns in ([0, 0, 0], [0, 1, -1]):
                    table = some_table(self.chance, ring, columns, 5, (1,) if letters == 4 else (1, 2), 2)
                    self.check(ring, columns, table)
                    self.check_told(ring, columns, table)


class Own(LaddersCase):
    def test_nothing_handed_in_is_changed_or_kept(self):
        for ring, columns, table in some_tables(self.chance, letters=(1, 2, 3)):
            handed = copy.deepcopy((columns, table))
            ladder = Ladder(ring, columns, table)
            self.assertEqual((columns, table), handed)
            expected = copy.deepcopy(ladder.rungs())
            spoil((columns, table))
            self.assertEqual(ladder.rungs(), expected)
            self.assertEqual(ladder.columns(), handed[0])
            self.assertEqual(Ladder(ring, *handed).rungs(), expected)

    def test_what_is_told_is_the_askers_own(self):
        for ring, columns, table in some_tables(self.chance, letters=(1, 2, 3)):
            ladder = Ladder(ring, columns, table)
            expected = copy.deepcopy(ladder.rungs())
            for told in (ladder.rungs(), ladder.columns()):
                self.assertEqual(len({id(found) for found in lists_within(told)}), len(lists_within(told)))
                spoil(told)
            self.assertEqual(ladder.rungs(), expected)
            self.assertEqual(ladder.columns(), columns)
            if ladder.many() > 1:
                row = copy.deepcopy(expected[1][1][0])
                told = ladder.told(1, row)
                kept = copy.deepcopy(told)
                spoil(told)
                self.assertEqual(row, expected[1][1][0])
                self.assertEqual(ladder.told(1, row), kept)
                spoil(row)
                self.assertEqual(ladder.told(1, expected[1][1][0]), kept)


def some_number_of(kind, place):
    return kind.of(place + 1) if kind.prime() != 2 and kind.prime() != 3 else 1
