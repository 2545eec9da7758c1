import copy
import random
import unittest

from relationladder.errors import NoMap
from relationladder.ladders import Ladder
from relationladder.maps import aside, carried
from relationladder.numbers import Fractions, Rests
from relationladder.rests import rest
from relationladder.rows import row_minus, row_plus
from relationladder.struck import Struck
from relationladder.sums import Ring
from tests.helpers import check_own, check_refused, lists_within
from tests.reckoning import (
    KINDS, as_terms, check_row, level_of, levels_of, mixed, multiples_at, noughts, one, rank, same_mixtures,
    some_mixture, some_row, some_sum, some_table, some_tables,
)

TWO = Ring(Fractions(), 2)


def unit(ring):
    return [(one(ring), ring.numbers().of(1))]


def letter(ring, number, often=1):
    return [(tuple(often * (own == number) for own in range(ring.letters())), ring.numbers().of(1))]


def diagonal(ring, many, factor):
    return [[list(factor) if own == place else [] for own in range(many)] for place in range(many)]


def stands_of(ladder):
    return [ladder.columns()] + [levels_of(columns, rows) for columns, rows in ladder.rungs()]


def at(stands, number):
    return stands[number] if number < len(stands) else []


def is_mixture(ring, columns, rows, row):
    level = level_of(columns, row)
    if level is None:
        return True
    vectors = multiples_at(ring, columns, rows, level)
    return rank(ring, vectors) == rank(ring, vectors + [as_terms(ring, row)])


class MapsCase(unittest.TestCase):
    def setUp(self):
        self.chance = random.Random(26)

    def check_carried(self, ladder, other, first, number):
        maps = carried(ladder, other, first)
        self.assertIs(type(maps), list)
        ring, stands, other_stands = ladder.ring(), stands_of(ladder), stands_of(other)
        rungs = [rows for columns, rows in ladder.rungs()]
        other_rungs = [rows for columns, rows in other.rungs()]
        self.assertEqual(len(maps), ladder.many() + 1)
        self.assertEqual(maps[0], first)
        for stand, rows in enumerate(maps):
            self.assertIs(type(rows), list)
            self.assertEqual(len(rows), len(stands[stand]))
            for row, own in zip(rows, stands[stand]):
                check_row(self, ring, at(other_stands, stand), row, own + number)
        for stand in range(1, len(stands)):
            many = len(at(other_stands, stand - 1))
            for row, mapped in zip(rungs[stand - 1], maps[stand]):
                self.assertEqual(mixed(ring, many, maps[stand - 1], row),
                                 mixed(ring, many, at(other_rungs, stand - 1), mapped))
        return maps

    def check_aside(self, ladder, other, maps, number):
        steps = aside(ladder, other, maps)
        self.assertIs(type(steps), list)
        ring, stands, other_stands = ladder.ring(), stands_of(ladder), stands_of(other)
        rungs = [rows for columns, rows in ladder.rungs()]
        other_rungs = [rows for columns, rows in other.rungs()]
        self.assertEqual(len(steps), len(stands))
        for stand, rows in enumerate(steps):
            self.assertIs(type(rows), list)
            self.assertEqual(len(rows), len(stands[stand]))
            many = len(at(other_stands, stand))
            for place, (row, own) in enumerate(zip(rows, stands[stand])):
                check_row(self, ring, at(other_stands, stand + 1), row, own + number)
                found = mixed(ring, many, at(other_rungs, stand), row)
                if stand > 0:
                    found = row_plus(ring, found, mixed(ring, many, steps[stand - 1], rungs[stand - 1][place]))
                self.assertEqual(found, maps[stand][place])
        return steps

    def into_mixtures(self, ladder, other, number):
        """A first map whose rows are mixtures of the other ladder's first rung's rows."""
        ring, columns = ladder.ring(), other.columns()
        rows = other.rungs()[0][1] if other.many() else []
        levels = levels_of(columns, rows)
        found = []
        for own in ladder.columns():
            multiples = [some_sum(self.chance, ring, own + number - level, 2) if self.chance.random() < 0.6 else []
                         for level in levels]
            found.append(mixed(ring, len(columns), rows, multiples))
        return found


class Carried(MapsCase):
    def test_times_a_sum(self):
        for ring, columns, table in some_tables(self.chance, 2):
            ladder = Ladder(ring, columns, table)
            for number in (0, 1, 2):
                factor = some_sum(self.chance, ring, number, 2)
                self.check_carried(ladder, ladder, diagonal(ring, len(columns), factor), number)

    def test_between_tables_with_the_same_mixtures(self):
        for ring, columns, table in some_tables(self.chance):
            ladder = Ladder(ring, columns, table)
            other = Ladder(ring, columns, same_mixtures(self.chance, ring, columns, table))
            self.check_carried(ladder, other, diagonal(ring, len(columns), unit(ring)), 0)
            self.check_carried(other, ladder, diagonal(ring, len(columns), some_sum(self.chance, ring, 1, 2)), 1)

    def test_into_mixtures_of_any_number(self):
        for ring, columns, table in some_tables(self.chance):
            ladder = Ladder(ring, columns, table)
            own = self.chance.choice([[0], [1, -2], list(columns)])
            other = Ladder(ring, own, some_table(self.chance, ring, own, 3, (0, 1, 2)))
            for number in (-25, -2, -1, 0, 3, own[0] + 2 - columns[0]):
                self.check_carried(ladder, other, self.into_mixtures(ladder, other, number), number)

    def test_noughts_alone(self):
        for ring, columns, table in some_tables(self.chance):
            ladder = Ladder(ring, columns, table)
            other = Ladder(ring, [0, 4], [[letter(ring, 0), []]])
            maps = self.check_carried(ladder, other, [noughts([0, 4]) for own in columns], 7)
            self.assertTrue(all(entry == [] for rows in maps for row in rows for entry in row))

    def test_further_mixtures(self):
        """The other table has the ladder's rows and more of them."""
        for ring, columns, table in some_tables(self.chance, letters=(1, 2, 3)):
            more = table[:4] + some_table(self.chance, ring, columns, 1)
            ladder = Ladder(ring, columns, table[:4])
            self.check_carried(ladder, Ladder(ring, columns, more), diagonal(ring, len(columns), unit(ring)), 0)

    def test_without_rungs(self):
        for kind in KINDS:
            for letters in (1, 2, 3, 4):
                ring = Ring(kind, letters)
                empty = Ladder(ring, [0, 1], [])
                other = Ladder(ring, [2], [[letter(ring, 0)]])
                drawn = [some_row(self.chance, ring, [2], own + 4) for own in (0, 1)]
                self.assertEqual(self.check_carried(empty, other, drawn, 4), [drawn])
                self.assertEqual(self.check_carried(empty, empty, diagonal(ring, 2, unit(ring)), 0)[0],
                                 diagonal(ring, 2, unit(ring)))
                self.assertEqual(self.check_carried(other, empty, [noughts([0, 1])], 0), [[[[], []]], [[]]])
                check_refused(self, NoMap, lambda: carried(other, empty, [[letter(ring, 0), []]]))

    def test_ladders_of_other_lengths(self):
        ring = Ring(Rests(5), 3)
        long = Ladder(ring, [0], [[letter(ring, number)] for number in range(3)])
        short = Ladder(ring, [0], [[letter(ring, 0)]])
        one_row = Ladder(ring, [0], [[unit(ring)]])
        self.assertEqual((long.many(), short.many()), (3, 1))
        self.check_carried(short, long, [[unit(ring)]], 0)
        self.check_carried(long, short, [[letter(ring, 0)]], 1)
        self.check_carried(long, one_row, [[unit(ring)]], 0)
        maps = self.check_carried(long, short, [[letter(ring, 0, 2)]], 2)
        self.assertEqual(maps[2:], [[[], [], []], [[]]])
        self.check_aside(long, short, maps, 2)

    def test_no_map(self):
        ring = TWO
        squares = Ladder(ring, [0], [[letter(ring, 0, 2)], [letter(ring, 1, 2)]])
        cubes = Ladder(ring, [0], [[letter(ring, 0, 3)], [letter(ring, 1, 3)]])
        self.check_carried(cubes, squares, [[unit(ring)]], 0)
        check_refused(self, NoMap, lambda: carried(squares, cubes, [[unit(ring)]]))
        check_refused(self, NoMap, lambda: carried(squares, cubes, [[letter(ring, 0)]]))
        self.check_carried(squares, cubes, [[[((1, 1), (2, 1))]]], 2)

    def test_no_map_just_where_a_row_is_no_mixture(self):
        met = [0, 0]
        for ring, columns, table in some_tables(self.chance, letters=(1, 2, 3)):
            ladder = Ladder(ring, columns, table)
            other = Ladder(ring, columns, some_table(self.chance, ring, columns, 3, (0, 1)))
            for number in (0, 1):
                first = [some_row(self.chance, ring, columns, own + number, 1) for own in columns]
                rows = ladder.rungs()[0][1] if table else []
                fits = all(is_mixture(ring, columns, other.rungs()[0][1], mixed(ring, len(columns), first, row))
                           for row in rows)
                met[fits] += 1
                if fits:
                    self.check_carried(ladder, other, first, number)
                else:
                    check_refused(self, NoMap, lambda: carried(ladder, other, first))
        self.assertGreater(min(met), 3)


class Aside(MapsCase):
    def test_into_mixtures(self):
        for ring, columns, table in some_tables(self.chance, 2):
            ladder = Ladder(ring, columns, table)
            other = Ladder(ring, columns, same_mixtures(self.chance, ring, columns, table))
            for number in (-1, 0, 2):
                maps = carried(ladder, other, self.into_mixtures(ladder, other, number))
                self.check_aside(ladder, other, maps, number)

    def test_there_and_back_less_what_stays(self):
        for ring, columns, table in some_tables(self.chance):
            ladder = Ladder(ring, columns, table)
            other = Ladder(ring, columns, same_mixtures(self.chance, ring, columns, table))
            stay = diagonal(ring, len(columns), unit(ring))
            there, back = carried(ladder, other, stay), carried(other, ladder, stay)
            stands = stands_of(ladder)
            self.assertEqual(len(there), len(back))
            left = []
            for stand, rows in enumerate(there):
                # The row there, mixing the rows back, less the place itself.
                both = [mixed(ring, len(stands[stand]), back[stand], row) for row in rows]
                own = diagonal(ring, len(stands[stand]), unit(ring))
                left.append([row_minus(ring, row, lone) for row, lone in zip(both, own)])
            self.check_aside(ladder, ladder, left, 0)

    def test_noughts_alone(self):
        for ring, columns, table in some_tables(self.chance):
            ladder = Ladder(ring, columns, table)
            maps = carried(ladder, ladder, [noughts(columns) for own in columns])
            steps = self.check_aside(ladder, ladder, maps, 0)
            self.assertTrue(all(entry == [] for rows in steps for row in rows for entry in row))

    def test_two_maps_with_the_same_first_one(self):
        """What two maps carried up from one first map differ by."""
        for ring, columns, table in some_tables(self.chance, letters=(2, 3)):
            ladder = Ladder(ring, columns, table)
            other = Ladder(ring, columns, table[::-1])
            back = Struck(other)
            first = diagonal(ring, len(columns), unit(ring))
            maps = carried(ladder, other, first)
            stands = stands_of(other)
            led = []
            for stand, rows in enumerate(maps):
                # By the thin ladder and back again, which goes along with the rungs.
                thin = [mixed(ring, len(back.back(stand)), back.there(stand), row) for row in rows]
                again = [mixed(ring, len(stands[stand]), back.back(stand), row) for row in thin]
                led.append([row_minus(ring, row, more) for row, more in zip(rows, again)])
            self.check_aside(ladder, other, led, 0)

    def test_without_rungs(self):
        for kind in KINDS:
            ring = Ring(kind, 2)
            empty = Ladder(ring, [0, 1], [])
            other = Ladder(ring, [2], [[letter(ring, 0)]])
            self.assertEqual(aside(empty, other, [[noughts([2]), noughts([2])]]), [[[[]], [[]]]])
            self.check_aside(empty, other, [[[letter(ring, 0, 3)], [letter(ring, 0, 4)]]], 5)
            maps = carried(other, empty, [noughts([0, 1])])
            self.assertEqual(self.check_aside(other, empty, maps, 0), [[[]], [[]]])
            check_refused(self, NoMap, lambda: aside(empty, empty, [diagonal(ring, 2, unit(ring))]))

    def test_no_map(self):
        met = 0
        for ring, columns, table in some_tables(self.chance):
            ladder = Ladder(ring, columns, table)
            first = diagonal(ring, len(columns), unit(ring))
            rows = ladder.rungs()[0][1] if table else []
            if not all(is_mixture(ring, columns, rows, row) for row in first):
                met += 1
                check_refused(self, NoMap, lambda: aside(ladder, ladder, carried(ladder, ladder, first)))
            else:
                self.check_aside(ladder, ladder, carried(ladder, ladder, first), 0)
        self.assertGreater(met, 3)


class Ways(MapsCase):
    def test_both_ways_to_multiples(self):
        """The shorter one is told; here each is checked by itself."""
        for ring, columns, table in some_tables(self.chance):
            ladder = Ladder(ring, columns, table)
            if table:
                own, rows = ladder.rungs()[0]
                for _ in range(2):
                    row = some_mixture(self.chance, ring, columns, table)[1]
                    for multiples in (ladder.glued_multiples(row), rest(ring, own, rows, row)[0]):
                        check_row(self, ring, levels_of(own, rows), multiples, level_of(own, row))
                        self.assertEqual(mixed(ring, len(own), rows, multiples), row)


class Large(MapsCase):
    def test_ten_figures_over_ten(self):
        for letters, columns, many in [(1, [0, 1], 4), (2, [0], 4), (2, [0, 1], 3), (3, [0], 3), (4, [0], 2)]:
            ring = Ring(Fractions(), letters)
            ladder = Ladder(ring, columns, some_table(self.chance, ring, columns, many, (1, 2), 2, 10))
            factor = some_sum(self.chance, ring, 1, 3, 30)
            self.check_carried(ladder, ladder, diagonal(ring, len(columns), factor), 1)
            maps = self.check_carried(ladder, ladder, self.into_mixtures(ladder, ladder, 1), 1)
            self.check_aside(ladder, ladder, maps, 1)

    def test_five_rows_over_three_columns(self):
        for kind in KINDS:
            for letters in (1, 2, 3, 4):
                ring = Ring(kind, letters)
                ladder = Ladder(ring, [0, 1, 0], some_table(self.chance, ring, [0, 1, 0], 5, (1, 2), 2))
                maps = self.check_carried(ladder, ladder, self.into_mixtures(ladder, ladder, 1), 1)
                self.check_aside(ladder, ladder, maps, 1)


class Own(MapsCase):
    def test_own(self):
        for ring, columns, table in some_tables(self.chance, letters=(1, 2, 3)):
            ladder = Ladder(ring, columns, table)
            other = Ladder(ring, columns, same_mixtures(self.chance, ring, columns, table))
            kept = copy.deepcopy((ladder.rungs(), other.rungs(), ladder.columns(), other.columns()))
            check_own(self, lambda first: carried(ladder, other, first), diagonal(ring, len(columns), unit(ring)))
            maps = carried(ladder, other, self.into_mixtures(ladder, other, 1))
            check_own(self, lambda handed: aside(ladder, other, handed), maps)
            self.assertEqual((ladder.rungs(), other.rungs(), ladder.columns(), other.columns()), kept)

    def test_told_maps_are_new_lists(self):
        ring = TWO
        ladder = Ladder(ring, [0], [[letter(ring, 0)], [letter(ring, 1)]])
        first = [[unit(ring)]]
        maps = carried(ladder, ladder, first)
        handed = {id(found) for found in lists_within(first)}
        self.assertFalse(handed & {id(found) for found in lists_within(maps)})
