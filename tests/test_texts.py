import random
import unittest

from relationladder.errors import NoText
from relationladder.numbers import Fractions, Rests
from relationladder.products import all_products
from relationladder.rows import is_table
from relationladder.sums import Ring
from relationladder.texts import read_row, read_sum, read_table, show_row, show_sum, show_table
from tests.helpers import GREAT, ODD_THINGS, RINGS, check_own, check_refused, random_row, random_sum
from tests.reckoning import COLUMNS, KINDS, noughts, one, some_table, some_tables

F1, F2, F3, F4 = [Ring(Fractions(), letters) for letters in (1, 2, 3, 4)]
R7 = Ring(Rests(7), 2)
NO_TEXTS = [thing for thing in ODD_THINGS if not isinstance(thing, str)] + [0, 1, GREAT, [], {}, ["x"], ("x",), ["0"]]

# Sums of fractions in two letters and their texts.
SUMS = [
    ([], "0"),
    ([((0, 0), (1, 1))], "1"),
    ([((0, 0), (-1, 1))], "-1"),
    ([((0, 0), (-7, 2))], "-7/2"),
    ([((0, 0), (10, 1))], "10"),
    ([((1, 0), (1, 1))], "x"),
    ([((1, 0), (-1, 1))], "-x"),
    ([((0, 1), (1, 2))], "1/2*y"),
    ([((0, 1), (-1, 2))], "-1/2*y"),
    ([((2, 0), (1, 1))], "x^2"),
    ([((1, 1), (3, 1))], "3*x*y"),
    ([((24, 0), (-2, 3))], "-2/3*x^24"),
    ([((3, 10), (1, 1))], "x^3*y^10"),
    ([((1, 0), (1, 1)), ((0, 1), (1, 1))], "x + y"),
    ([((1, 0), (1, 1)), ((0, 1), (-1, 1))], "x - y"),
    ([((1, 0), (-1, 1)), ((0, 1), (-1, 1))], "-x - y"),
    ([((2, 0), (-3, 1)), ((1, 1), (5, 4)), ((0, 2), (-1, 5)), ((0, 0), (-1, 1))], "-3*x^2 + 5/4*x*y - 1/5*y^2 - 1"),
    ([((0, 2), (GREAT, GREAT + 1)), ((1, 0), (-GREAT, 1))], f"{GREAT}/{GREAT + 1}*y^2 - {GREAT}*x"),
]

NO_SUMS = [
    "", " ", "  ", "00", "-0", "+0", "+x", "+1", "- x", "-", "+", "--x", "-+x", "x+y", "x +y", "x+ y", "x  + y",
    "x +  y",
    " x", "x ", "x + ", " + x", "x - ", "x -", "x + + y", "x + -y", "x - -y", "x ? y", "x y", "x +y + y", "x + 0",
    "0 + x",
    "x - 0", "0*x", "0 - x", "x + 0*y", "1*x", "-1*x", "x + 1*y", "x - 1*y", "x^1", "x^0", "x^01", "x^02", "x^-1", "x^",
    "^2", "x^2^2", "x^x", "x^ 2", "x ^2", "x^+2", "x**2", "x^2*", "*x", "x*", "x*x", "x*x^2", "x^2*x", "y*x", "y + x",
    "x + x^2", "1 + x", "y^2 + x*y", "x + x", "x - x", "2*x + 3*x", "1 + 1", "x*2", "x*y*2", "2x", "2*3", "2*3*x", "xy",
    "2 *x", "2* x", "01", "02*x", "-02", "1/1", "2/1", "2/4", "0/1", "0/5", "-0/5", "1/0", "0/0", "1/-2", "-1/-2",
    "1/02",
    "01/2", "1/", "/2", "1//2", "1/2/3", "1 /2", "1/ 2", "1/x", "x/2", "x/y", "1/2x", "z", "w", "x + z", "X", "a", "x1",
    "x_1", "1_000", "1e3", "1.5", "1,5", "x, y", "x\n", "\nx", "x\n+ y", "(x)", "x^(2)", "x^2.0", "~", "x~", "\t",
    "x\t",
    "None", "[]", "2^2", "2^x", "x^1/2", "x - 1/1*y", "1/2*", "1/2*1", "- 1", "-  x", "x + y ", "x + y + ", "x + y +",
    "x - +y", "x+", "x*y + ", "x^99999999999999999999999999999a",
]


class Sums(unittest.TestCase):
    def test_written_out(self):
        for summed, text in SUMS:
            self.assertEqual(show_sum(F2, summed), text)
            self.assertEqual(read_sum(F2, text), summed)

    def test_rests(self):
        for summed, text in [
                ([], "0"), ([((0, 0), 1)], "1"), ([((0, 0), 6)], "6"), ([((1, 0), 1)], "x"), ([((1, 0), 6)], "6*x"),
                ([((2, 1), 3), ((0, 3), 1), ((0, 0), 5)], "3*x^2*y + y^3 + 5")]:
            self.assertEqual(show_sum(R7, summed), text)
            self.assertEqual(read_sum(R7, text), summed)

    def test_letters(self):
        for ring, text in ((F1, "x^3"), (F2, "x*y"), (F3, "x*y^2*z"), (F4, "x*y*z*w^5")):
            self.assertEqual(show_sum(ring, read_sum(ring, text)), text)
        self.assertEqual(read_sum(F4, "x*z^2*w"), [((1, 0, 2, 1), (1, 1))])
        for ring, text in ((F1, "y"), (F2, "z"), (F2, "x*z"), (F3, "w"), (F3, "x*w^2"), (F4, "v"), (F4, "a")):
            check_refused(self, NoText, lambda: read_sum(ring, text))

    def test_drawn(self):
        chance = random.Random(291)
        for ring in RINGS:
            for degrees in ([0], [1], [2], [0, 1, 2, 3], [24], [7, 4]):
                for _ in range(8):
                    summed = random_sum(chance, ring, degrees, 6)
                    text = show_sum(ring, summed)
                    self.assertEqual(text, written(ring, summed))
                    self.assertEqual(read_sum(ring, text), summed)

    def test_the_product_that_is_one(self):
        for ring in RINGS:
            lone = [(one(ring), ring.numbers().of(1))]
            self.assertEqual(show_sum(ring, lone), "1")
            self.assertEqual(read_sum(ring, "1"), lone)

    def test_a_hundred_parts(self):
        chance = random.Random(292)
        products = all_products(4, 5) + all_products(4, 4) + all_products(4, 3)
        drawn = products[:90] + products[-10:]
        summed = [(product, (chance.choice([-1, 1]) * chance.randint(1, 9), 1)) for product in drawn]
        self.assertEqual(len(summed), 100)
        self.assertEqual(read_sum(F4, show_sum(F4, summed)), summed)

    def test_numbers_beyond_thirty_figures(self):
        """Told in the document as a bound alone: nothing is refused for it."""
        for text in ("1" + 40 * "0", "-" + 50 * "7" + "*x", "x - 1/" + 45 * "3" + "*y"):
            self.assertEqual(show_sum(F2, read_sum(F2, text)), text)
        self.assertEqual(show_sum(F2, [((1, 0), (-10 ** 900, 7))]), "-1" + 900 * "0" + "/7*x")
        self.assertEqual(read_sum(F1, "x^100"), [((100,), (1, 1))])

    def test_no_texts(self):
        for text in NO_SUMS:
            check_refused(self, NoText, lambda: read_sum(F2, text))
            check_refused(self, NoText, lambda: read_sum(R7, text))
        for thing in NO_TEXTS:
            for ring in RINGS:
                check_refused(self, NoText, lambda: read_sum(ring, thing))

    def test_no_texts_of_rests(self):
        for text in ("7", "8*x", "-1", "-x", "x - y", "-6", "1/2", "6/1", "x - 6*y", "07", "10", "7*x + y", "1/7",
            "2/7*x"):
            check_refused(self, NoText, lambda: read_sum(R7, text))
        two = Ring(Rests(2), 1)
        self.assertEqual(read_sum(two, "x^2 + x + 1"), [((2,), 1), ((1,), 1), ((0,), 1)])
        for text in ("2", "2*x", "x - 1", "1*x", "3*x", "0*x"):
            check_refused(self, NoText, lambda: read_sum(two, text))

    def test_texts_that_are_changed(self):
        """A sign more, less or another one: read is just what is written so."""
        chance = random.Random(293)
        for ring in (F2, F4, R7, Ring(Rests(9973), 3)):
            for _ in range(60):
                text = show_sum(ring, random_sum(chance, ring, [1, 2, 3], 4))
                changed = with_a_change(chance, text)
                self.check_read(lambda: read_sum(ring, changed), lambda told: written(ring, told), changed)

    def check_read(self, ask, show, text):
        try:
            told = ask()
        except NoText:
            return
        self.assertEqual(show(told), text)


class Rows(unittest.TestCase):
    def test_written_out(self):
        for columns, row, text in [
                ([0], [[]], "0"), ([3], [[((1, 0), (1, 1))]], "x"), ([0, 0], [[], []], "0, 0"),
                ([0, 1], [[((1, 1), (1, 1)), ((0, 2), (-1, 2))], [((1, 0), (-1, 1))]], "x*y - 1/2*y^2, -x"),
                ([-20, 20, 0], [[], [], [((0, 0), (5, 1))]], "0, 0, 5")]:
            self.assertEqual(show_row(F2, row), text)
            self.assertEqual(read_row(F2, columns, text), row)

    def test_drawn(self):
        chance = random.Random(301)
        for ring in RINGS:
            for columns in COLUMNS:
                for row in (noughts(columns), random_row(chance, ring, columns, min(columns) + 2)):
                    text = show_row(ring, row)
                    self.assertEqual(text, ", ".join(written(ring, entry) for entry in row))
                    self.assertEqual(read_row(ring, columns, text), row)

    def test_over_more_columns(self):
        columns = [0, 1, 2, 3, 4, 5]
        row = read_row(F2, columns, "x^5, 0, x^3, y^2, 0, -7")
        self.assertEqual(show_row(F2, row), "x^5, 0, x^3, y^2, 0, -7")

    def test_no_texts(self):
        for text in ["", "x", "x, ", ", x", "x,y", "x , y", "x,  y", "x, y, ", "x, y, 0", "x, y,", " x, y", "x, y ",
                     "x; y",
                     "x, y\n", "x\ny", "x, 1", "x^2, x", "x, x^2", "x + 1, y", "x + y^2, 0", "x, -0", "x, 00",
                     "0, 0, 0",
                     "0", "0,0", "x, z", "x, 1*y", ",", ", ", "[x, y]"]:
            check_refused(self, NoText, lambda: read_row(F2, [0, 0], text))
        self.assertEqual(read_row(F2, [0, 0], "x, y"), [[((1, 0), (1, 1))], [((0, 1), (1, 1))]])
        check_refused(self, NoText, lambda: read_row(F2, [0, 1], "x, y"))
        self.assertEqual(read_row(F2, [1, 0], "1, y"), [[((0, 0), (1, 1))], [((0, 1), (1, 1))]])
        for thing in NO_TEXTS:
            check_refused(self, NoText, lambda: read_row(F2, [0], thing))
        for text in NO_SUMS:
            if text != "x, y":
                check_refused(self, NoText, lambda: read_row(F2, [0], text))
                check_refused(self, NoText, lambda: read_row(F2, [0, 0], text + ", 0"))
                check_refused(self, NoText, lambda: read_row(F2, [0, 0], "0, " + text))


class Tables(unittest.TestCase):
    def test_written_out(self):
        for ring, columns, table, text in [
                (F2, [0], [], "fractions 2\ncolumns 0"),
                (R7, [-3, 20], [], "rests 7 2\ncolumns -3 20"),
                (F1, [0], [[[((0,), (-1, 1))]]], "fractions 1\ncolumns 0\n-1"),
                (F2, [0, -1, 2], [[[((2, 0), (1, 1))], [], [((0, 0), (1, 3))]], [[], [((0, 1), (-1, 1))], []]],
                 "fractions 2\ncolumns 0 -1 2\nx^2, 0, 1/3\n0, -y, 0"),
                (Ring(Rests(9973), 4), [5], [[[((0, 0, 0, 1), 9972)]]], "rests 9973 4\ncolumns 5\n9972*w")]:
            self.assertEqual(show_table(ring, columns, table), text)
            self.check(text, ring, columns, table)

    def check(self, text, ring, columns, table):
        told = read_table(text)
        self.assertIs(type(told), tuple)
        self.assertEqual(told[1:], (columns, table))
        self.assertIsInstance(told[0], Ring)
        self.assertEqual(told[0].letters(), ring.letters())
        self.assertEqual(told[0].numbers().prime(), ring.numbers().prime())
        self.assertEqual(type(told[0].numbers()), type(ring.numbers()))

    def test_drawn(self):
        chance = random.Random(302)
        for ring, columns, table in some_tables(chance, 2):
            text = show_table(ring, columns, table)
            prime = ring.numbers().prime()
            lines = [f"rests {prime} {ring.letters()}" if prime else f"fractions {ring.letters()}"]
            lines.append("columns" + "".join(f" {own}" for own in columns))
            lines += [", ".join(written(ring, entry) for entry in row) for row in table]
            self.assertEqual(text, "\n".join(lines))
            self.check(text, ring, columns, table)

    def test_thirty_figures(self):
        chance = random.Random(303)
        for letters in (1, 2, 3, 4):
            ring = Ring(Fractions(), letters)
            table = some_table(chance, ring, [0, 1], 4, (1, 2), 2, 30)
            self.check(show_table(ring, [0, 1], table), ring, [0, 1], table)

    def test_more_than_five_rows(self):
        rows = [f"x^{own + 2}" for own in range(9)]
        ring, columns, table = read_table("fractions 1\ncolumns 0\n" + "\n".join(rows))
        self.assertEqual(len(table), 9)
        self.assertIs(is_table(ring, columns, table), True)

    def test_first_lines(self):
        for kind in KINDS + [Rests(5), Rests(101)]:
            for letters in (1, 2, 3, 4):
                ring = Ring(kind, letters)
                self.check(show_table(ring, [7], []), ring, [7], [])
        for line in ["", "fractions", "fractions ", "fractions 0", "fractions 5", "fractions 02", "fractions -1",
                     "fractions +2",
                     "fractions 2 ", " fractions 2", "fractions  2", "fractions 2 2", "fractions x", "fractions 2.0",
                     "Fractions 2", "fraction 2", "rests", "rests 7", "rests 7 ", "rests 7 0", "rests 7 5",
                     "rests 07 2",
                     "rests 7 02", "rests 4 2", "rests 1 2", "rests 0 2", "rests -7 2", "rests 9 2", "rests 9991 2",
                     "rests 9975 2", "rests 10007 2", "rests 7 2 ", "rests  7 2", "rests 7  2", "rests 7 2 1",
                     "rest 7 2",
                     "2", "7 2", "fractions 7 2", "rests 2", "columns 0", "fractions 1000000000000000000000000000007",
                     "rests 1000000000000000000000000000057 2", "fractions 2\t", "fractions\t2", "fractions two"]:
            for rest in ("\ncolumns 0", "\ncolumns 0\nx"):
                check_refused(self, NoText, lambda: read_table(line + rest))

    def test_second_lines(self):
        for columns in ([0], [-20], [20, -1], [1, 1, 1], [10 ** 29, -10 ** 29]):
            line = "columns" + "".join(f" {own}" for own in columns)
            self.assertEqual(read_table("fractions 1\n" + line)[1], columns)
        for line in ["", "columns", "columns ", "columns 0 0 0 0", "columns 0 1 2 3 4", "columns  0", "columns 0 ",
                     " columns 0",
                     "columns 0  1", "columns 00", "columns -0", "columns 01", "columns +1", "columns - 1",
                     "columns --1",
                     "columns x", "columns 0, 1", "columns 0,1", "column 0", "Columns 0", "columns 1.0", "0",
                     "columns 1/2",
                     "columns -", "columns\t0"]:
            for rest in ("", "\nx", "\nx, y"):
                check_refused(self, NoText, lambda: read_table("fractions 2\n" + line + rest))

    def test_no_tables(self):
        head = "fractions 2\ncolumns 0 1\n"
        self.assertEqual(len(read_table(head + "x, 1")[2]), 1)
        for behind in ["", "\n", "0, 0", "x, 1\n", "\nx, 1", "x, 1\n\nx, 1", "x, 1\n0, 0", "x", "x, 1, 0", "x, y",
                       "x, x",
                       "x, 1\nx", "x,1", "x, 1 ", " x, 1", "x, 1\r", "x, 1\nx^2, y\n0", "x, 1\nx, -0", "x + 1, 1"]:
            check_refused(self, NoText, lambda: read_table(head + behind))
        for text in ["", "\n", "\n\n", "fractions 2", "fractions 2\n", "columns 0", "columns 0\nfractions 2", "x", "0",
                     "fractions 2 columns 0", "fractions 2\n\ncolumns 0", "\nfractions 2\ncolumns 0"]:
            check_refused(self, NoText, lambda: read_table(text))
        for thing in NO_TEXTS:
            check_refused(self, NoText, lambda: read_table(thing))
        for text in NO_SUMS:
            check_refused(self, NoText, lambda: read_table("fractions 2\ncolumns 0\n" + text))

    def test_texts_that_are_changed(self):
        chance = random.Random(304)
        read = 0
        for ring, columns, table in some_tables(chance, 2):
            text = show_table(ring, columns, table)
            for _ in range(4):
                changed = with_a_change(chance, text)
                try:
                    told = read_table(changed)
                except NoText:
                    continue
                read += 1
                self.assertEqual(show_table(*told), changed)
                self.assertIs(is_table(told[0], told[1], told[2]), True)
        self.assertGreater(read, 0)


class Own(unittest.TestCase):
    def test_own(self):
        for ring, columns, table in some_tables(random.Random(305)):
            check_own(self, lambda own, handed: show_table(ring, own, handed), columns, table)
            text = show_table(ring, columns, table)
            check_own(self, lambda: read_table(text)[1:])
            for row in table:
                check_own(self, lambda handed: show_row(ring, handed), row)
                check_own(self, lambda own: read_row(ring, own, show_row(ring, row)), columns)
                check_own(self, lambda: read_sum(ring, show_sum(ring, row[0])))


def written(ring, summed):
    """Part by part; another road than the program's."""
    found = ""
    for product, number in summed:
        top, bottom = (number, 1) if ring.numbers().prime() else number
        factors = [f"{abs(top)}/{bottom}" if bottom > 1 else str(abs(top))]
        factors += [f"{sign}^{often}" if often > 1 else sign for sign, often in zip("xyzw", product) if often]
        if factors[0] == "1" and len(factors) > 1:
            factors.pop(0)
        found += (" - " if top < 0 else " + ") + "*".join(factors)
    if not found:
        return "0"
    return found[3:] if found.startswith(" + ") else "-" + found[3:]


def with_a_change(chance, text):
    place = chance.randrange(len(text) + 1)
    sign = chance.choice("0123456789 +-*/^xyzw,\n")
    how = chance.randrange(4)
    if how == 0:
        return text[:place] + sign + text[place:]
    if how == 1:
        return text[:place] + text[place + 1:]
    if how == 2:
        return text[:place] + sign + text[place + 1:]
    other = chance.randrange(len(text) + 1)
    return text[:place] + text[other:other + 3] + text[place:]
