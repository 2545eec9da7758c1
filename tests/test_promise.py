"""The promise under "The whole", and what was told handed in again."""

import copy
import random
import unittest

from relationladder.counting import count, count_polynomial, count_row
from relationladder.desk import Desk
from relationladder.judging import judged
from relationladder.ladders import Ladder
from relationladder.maps import aside, carried
from relationladder.numbers import Fractions, Rests
from relationladder.plain import plain_count, plain_degrees
from relationladder.relations import relations
from relationladder.rests import rest
from relationladder.rows import mixture
from relationladder.struck import Struck
from relationladder.texts import read_row, read_table, show_row, show_table
from relationladder.turns import turned_table
from relationladder.wholes import whole, whole_with
from tests.reckoning import (
    level_of, levels_of, mixed, noughts, one, same_mixtures, some_mixture, some_row, some_tables, terms_of_level,
)


def staying(ring, many):
    lone = (one(ring), ring.numbers().of(1))
    return [[[lone] if own == place else [] for own in range(many)] for place in range(many)]


def step_turn(ring, number):
    numbers, letters = ring.numbers(), range(ring.letters())
    turn = [[numbers.of(int(own == place)) for place in letters] for own in letters]
    if len(turn) > 1:
        turn[-1][0] = numbers.of(number)
    return turn


class Promise(unittest.TestCase):
    def setUp(self):
        self.chance = random.Random(3)

    def drawn(self, **how):
        return list(some_tables(self.chance, **how))

    def test_papers_either_way(self):
        for ring, columns, table in self.drawn():
            full, ways = whole_with(ring, columns, table)
            self.assertEqual(full, whole(ring, columns, table))
            self.assertEqual([mixed(ring, len(columns), table, way) for way in ways], full)
            for row in table:
                multiples, left = rest(ring, columns, full, row)
                self.assertEqual((mixed(ring, len(columns), full, multiples), left), (row, noughts(columns)))
            rows = [some_row(self.chance, ring, columns, max(columns) + own) for own in (1, 2, 3)]
            rows += [some_mixture(self.chance, ring, columns, table)[1]] if table else []
            for row in rows:
                self.check_paper(ring, columns, table, full, row)

    def check_paper(self, ring, columns, table, full, row):
        told, paper = judged(ring, columns, table, row)
        self.assertEqual(told == "in", not any(rest(ring, columns, full, row)[1]))
        if told == "in":
            self.assertEqual(mixed(ring, len(columns), table, paper), row)
            return
        numbers, level = ring.numbers(), level_of(columns, row)
        weights = {(place, product): number for place, product, number in paper}

        def worth(own):
            found = numbers.of(0)
            for place, entry in enumerate(own):
                for product, number in entry:
                    weight = weights.get((place, product), numbers.of(0))
                    found = numbers.plus(found, numbers.times(number, weight))
            return found

        self.assertNotEqual(worth(row), numbers.of(0))
        for own in table:
            for place, product in terms_of_level(ring, [level_of(columns, own)], level):
                raised = mixture(ring, len(columns), [own], [[(product, numbers.of(1))]])
                self.assertEqual(worth(raised), numbers.of(0))

    def test_degrees_and_counts_in_several_ways(self):
        for ring, columns, table in self.drawn():
            ladder = Ladder(ring, columns, table)
            struck = Struck(ladder)
            degrees = struck.degrees()
            self.assertLessEqual(len(ladder.rungs()), ring.letters())
            most = min(columns) + 7
            padded = degrees + [[] for _ in range(ring.letters() + 1 - len(degrees))]
            self.assertEqual(plain_degrees(ring, columns, table, most),
                             [[own for own in rising if own <= most] for rising in padded])
            polynomial = count_polynomial(ring, columns, table)
            for level in range(min(columns) - 1, most):
                told = count(ring, columns, table, level)
                self.assertEqual(plain_count(ring, columns, table, level), told)
                for stands in ([columns] + [levels_of(own, rows) for own, rows in ladder.rungs()], degrees):
                    self.assertEqual(told, sum((-1) ** turn * len(terms_of_level(ring, own, level))
                                               for turn, own in enumerate(stands)))
                if polynomial is not None and level >= polynomial[1]:
                    worth = sum(top * 6 // bottom * level ** power for power, (top, bottom) in enumerate(polynomial[0]))
                    self.assertEqual(worth, 6 * told)

    def test_same_mixtures_and_letters_turned(self):
        for ring, columns, table in self.drawn(letters=(1, 2, 3)):
            degrees = Struck(Ladder(ring, columns, table)).degrees()
            row = count_row(ring, columns, table)
            turned = turned_table(ring, step_turn(ring, -2), table)
            for own in (same_mixtures(self.chance, ring, columns, table), whole(ring, columns, table), turned):
                self.assertEqual(Struck(Ladder(ring, columns, own)).degrees(), degrees)
                self.assertEqual(count_row(ring, columns, own), row)

    def test_ladders_lead_there_and_back(self):
        """Between two tables with the same mixtures; what carries nought is steps aside."""
        for ring, columns, table in self.drawn(letters=(1, 2, 3)):
            ladder = Ladder(ring, columns, table)
            other = Ladder(ring, columns, same_mixtures(self.chance, ring, columns, table))
            maps = carried(ladder, other, staying(ring, len(columns)))
            self.assertEqual(len(maps), ladder.many() + 1)
            nought = carried(ladder, other, [noughts(columns) for _ in columns])
            self.assertEqual(len(aside(ladder, other, nought)), len(maps))

    def test_told_things_handed_in_again(self):
        for ring, columns, table in self.drawn(letters=(1, 2, 3), columns_drawn=2):
            ladder = Ladder(ring, columns, table)
            rungs = ladder.rungs() + Struck(ladder).rungs()
            for own, rows in rungs:
                handed = copy.deepcopy((own, rows))
                full = whole(ring, own, rows)
                self.assertEqual(whole(ring, own, full), full)
                self.assertEqual(judged(ring, own, rows, full[0])[0], "in")
                again = Ladder(ring, own, rows)
                self.assertEqual(again.rungs()[0], (own, full))
                degrees = Struck(again).degrees()
                self.assertEqual(plain_degrees(ring, own, rows, min(own) + 2)[0],
                                 [level for level in degrees[0] if level <= min(own) + 2])
                for row in relations(ring, own, rows):
                    self.assertEqual(mixed(ring, len(own), rows, row), noughts(own))
                    self.assertEqual(read_row(ring, levels_of(own, rows), show_row(ring, row)), row)
                turned = turned_table(ring, step_turn(ring, 1), rows)
                self.assertEqual(turned_table(ring, step_turn(ring, -1), turned), rows)
                self.assertEqual(count_row(ring, own, turned), count_row(ring, own, rows))
                if len(own) <= 3:
                    self.assertEqual(read_table(show_table(ring, own, rows))[1:], (own, rows))
                self.assertEqual((own, rows), handed)

    def test_maps_of_ladders_of_told_tables(self):
        for ring, columns, table in self.drawn(letters=(2, 3), columns_drawn=2, kinds=[Fractions(), Rests(3)]):
            for own, rows in Ladder(ring, columns, table).rungs()[1:]:
                if len(own) <= 12:
                    ladder = Ladder(ring, own, rows)
                    maps = carried(ladder, ladder, staying(ring, len(own)))
                    self.assertEqual(maps[0], staying(ring, len(own)))
                    places = [len(own)] + [len(rung[1]) for rung in ladder.rungs()]
                    self.assertEqual([len(stand) for stand in maps], places)

    def test_the_desk_says_the_same(self):
        for ring, columns, table in self.drawn(letters=(1, 2, 3)):
            desk = Desk()
            desk.say("table a\n" + show_table(ring, columns, table))
            full = show_table(ring, columns, whole(ring, columns, table))
            self.assertEqual(desk.say("whole a"), full)
            if len(full.split("\n")) <= 7:
                desk.say("table b\n" + full)
                self.assertEqual(desk.say("same a b"), "yes")
                self.assertEqual(desk.say("thin b"), desk.say("thin a"))
            asked = ["thin a", "polynomial a", f"count a {columns[0] + 2}"]
            before = [desk.say(row) for row in asked]
            if ring.letters() > 1:
                desk.say("turn a 1 0 -5")
                self.assertEqual([desk.say(row) for row in asked], before)
                desk.say("turn a 1 0 5")
            self.assertEqual(desk.say("show a"), show_table(ring, columns, table))
