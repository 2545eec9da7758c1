import random
import unittest

from relationladder.counting import count, count_polynomial
from relationladder.desk import Desk
from relationladder.errors import NoName, NoRow, NoText, NoTurn, TooMany
from relationladder.judging import judged
from relationladder.ladders import Ladder
from relationladder.struck import Struck
from relationladder.texts import show_row, show_table
from relationladder.turns import turned_table
from relationladder.wholes import whole
from tests.helpers import GREAT, ODD_THINGS, check_refused
from tests.reckoning import same_mixtures, some_mixture, some_row, some_tables

SQUARES = "fractions 2\ncolumns 0\nx^2\nx*y + y^2"
RESTS = "rests 7 3\ncolumns 0 -1\nx, 0\n2*y, 3*x*z"
FIVE = "fractions 2\ncolumns 0\n" + "\n".join(["x", "y", "x^2", "x*y", "y^2"])
SIX = FIVE + "\nx^3"
NUMBERS = ["0", "1", "-1", "7", "30", "-30", "9" * 30, "-" + "9" * 30]
NO_NUMBERS = ["", "-", "+1", "00", "-0", "01", "-01", "1.0", "1/2", "x", "1x", "--1", "- 1", "1_0", "1e2", "0x1",
              "9" * 31,
              "-" + "1" + "0" * 30, "\t1", "one"]
NO_NAMES = ["", "A", "aB", "a1", "1", "a_", "a-b", "abcdefghi", "a" * 20, "table.", "a\t", "*"]


def kept(*told):
    desk = Desk()
    for name, text in told:
        desk.say(f"table {name}\n{text}")
    return desk


class DeskCase(unittest.TestCase):
    def check_refused(self, desk, refusal, row, names=()):
        """Behind it all is as it was."""
        before = [desk.say("show " + name) for name in names]
        check_refused(self, refusal, lambda: desk.say(row))
        self.assertEqual([desk.say("show " + name) for name in names], before)

    def check_said(self, desk, row, answer):
        told = desk.say(row)
        self.assertIs(type(told), str)
        self.assertEqual(told, answer, row)


class Answers(DeskCase):
    def test_written_out(self):
        desk = Desk()
        for row, answer in [
                ("table a\n" + SQUARES, "ok"), ("show a", SQUARES), ("whole a", SQUARES + "\ny^3"),
                ("in a y^3", "yes"), ("in a x*y", "no"), ("in a 0", "yes"), ("in a x^2 - 7/3*x*y - 7/3*y^2", "yes"),
                ("thin a", "0 | 2 2 | 4"), ("count a 2", "1"), ("count a 1", "2"), ("count a -100", "0"),
                ("count a 100", "0"), ("polynomial a", "3"), ("same a a", "yes"),
                ("table b\nfractions 2\ncolumns 0\ny^3\nx*y + y^2\n2*x^2", "ok"), ("same a b", "yes"), ("same b a",
                "yes"),
                ("add b x^2 - y^2", "ok"), ("same a b", "no"), ("same b a", "no"),
                ("show b", "fractions 2\ncolumns 0\ny^3\nx*y + y^2\n2*x^2\nx^2 - y^2"),
                ("drop b 0", "ok"), ("show b", "fractions 2\ncolumns 0\nx*y + y^2\n2*x^2\nx^2 - y^2"),
                ("drop b 2", "ok"), ("drop b 1", "ok"), ("show b", "fractions 2\ncolumns 0\nx*y + y^2"),
                ("polynomial b", "2 1"), ("turn b 0 1 -1", "ok"), ("show b", "fractions 2\ncolumns 0\nx*y"),
                ("drop b 0", "ok"), ("show b", "fractions 2\ncolumns 0"), ("whole b", "fractions 2\ncolumns 0"),
                ("thin b", "0"), ("polynomial b", "1 1 -1"), ("turn b 1 0 5", "ok"), ("in b 0", "yes"), ("in b 1",
                "no"),
                ("show a", SQUARES)]:
            self.check_said(desk, row, answer)

    def test_rests(self):
        desk = Desk()
        for row, answer in [
                ("table rests\n" + RESTS, "ok"), ("show rests", RESTS), ("in rests 3*x, 0", "yes"),
                ("in rests 0, x*y", "no"),
                ("turn rests 1 0 -1", "ok"), ("show rests", "rests 7 3\ncolumns 0 -1\nx, 0\n5*x + 2*y, 3*x*z"),
                ("turn rests 0 2 15", "ok"), ("drop rests 1", "ok"), ("show rests",
                "rests 7 3\ncolumns 0 -1\nx + z, 0"),
                ("polynomial rests", "4 7/2 1/2 -1"), ("thin rests", "-1 0 | 1"), ("count rests -1", "1"),
                ("count rests 0", "4")]:
            self.check_said(desk, row, answer)

    def test_drawn(self):
        chance = random.Random(311)
        for ring, columns, table in some_tables(chance, 2):
            text = show_table(ring, columns, table)
            desk = kept(("a", text))
            self.check_said(desk, "show a", text)
            self.check_said(desk, "whole a", show_table(ring, columns, whole(ring, columns, table)))
            degrees = Struck(Ladder(ring, columns, table)).degrees()
            self.check_said(desk, "thin a", " | ".join(" ".join(map(str, own)) for own in degrees))
            for level in (-100, min(columns), min(columns) + 3, 100):
                self.check_said(desk, f"count a {level}", str(count(ring, columns, table, level)))
            polynomial = count_polynomial(ring, columns, table)
            if polynomial is None:
                self.check_said(desk, "polynomial a", "none")
            else:
                parts = [str(top) if bottom == 1 else f"{top}/{bottom}" for top, bottom in polynomial[0]]
                self.check_said(desk, "polynomial a", " ".join(parts + [str(polynomial[1])]))
            rows = [some_row(chance, ring, columns, chance.choice(columns) + chance.randint(0, 4)) for _ in range(3)]
            rows += [some_mixture(chance, ring, columns, table)[1]] if table else []
            for row in rows:
                answer = "yes" if judged(ring, columns, table, row)[0] == "in" else "no"
                self.check_said(desk, "in a " + show_row(ring, row), answer)

    def test_thin_without_degrees(self):
        desk = kept(("a", "fractions 3\ncolumns 5\n-1/2"), ("b", "rests 2 1\ncolumns 0 0\n1, 1\n1, 0"))
        self.check_said(desk, "thin a", "")
        self.check_said(desk, "thin b", "")
        self.check_said(desk, "polynomial a", "none")
        self.check_said(desk, "polynomial b", "none")
        desk = kept(("a", "fractions 2\ncolumns 1 0\n1, x\ny, 0"))
        self.check_said(desk, "thin a", "0 | 2")

    def test_polynomials(self):
        for text, answer in [
                ("fractions 4\ncolumns 0", "1 11/6 1 1/6 -3"), ("rests 5 4\ncolumns 0", "1 11/6 1 1/6 -3"),
                ("rests 3 3\ncolumns 2", "0 -1/2 1/2 0"), ("fractions 1\ncolumns -20", "1 -20"),
                ("fractions 1\ncolumns -20\nx^3", "-17"), ("rests 2 2\ncolumns 20 -20", "2 2 19")]:
            self.check_said(kept(("a", text)), "polynomial a", answer)

    def test_same(self):
        chance = random.Random(312)
        for ring, columns, table in some_tables(chance):
            other = same_mixtures(chance, ring, columns, table)
            desk = kept(("one", show_table(ring, columns, table)), ("other", show_table(ring, columns, other)))
            self.check_said(desk, "same one other", "yes")
            self.check_said(desk, "same other one", "yes")
            third = table[1:]
            desk.say("table third\n" + show_table(ring, columns, third))
            same = whole(ring, columns, third) == whole(ring, columns, table)
            self.check_said(desk, "same one third", "yes" if same else "no")

    def test_same_of_other_kinds(self):
        texts = ["fractions 2\ncolumns 0\nx", "rests 7 2\ncolumns 0\nx", "rests 5 2\ncolumns 0\nx",
                 "fractions 3\ncolumns 0\nx",
                 "fractions 2\ncolumns 1\nx", "fractions 2\ncolumns 0 0\nx, 0", "fractions 2\ncolumns 0\ny",
                 "fractions 2\ncolumns 0", "rests 7 2\ncolumns 0", "fractions 2\ncolumns 1", "fractions 2\ncolumns 0 1",
                 "fractions 2\ncolumns 1 0", "fractions 2\ncolumns 0\nx\ny", "fractions 2\ncolumns 0\nx^2",
                 "fractions 3\ncolumns 0", "rests 5 2\ncolumns 0"]
        names = "abcdefghijklmnop"
        desk = kept(*zip(names, texts))
        for one in names:
            for other in names:
                self.check_said(desk, f"same {one} {other}", "yes" if one == other else "no")

    def test_two_desks_apart(self):
        one, other = kept(("a", SQUARES)), Desk()
        self.check_refused(other, NoName, "show a")
        other.say("table a\n" + RESTS)
        one.say("drop a 0")
        self.check_said(other, "show a", RESTS)
        self.check_said(one, "show a", "fractions 2\ncolumns 0\nx*y + y^2")


class Deeds(DeskCase):
    def test_kept_anew(self):
        desk = kept(("a", SQUARES), ("b", RESTS))
        self.check_said(desk, "table a\n" + RESTS, "ok")
        self.check_said(desk, "show a", RESTS)
        self.check_said(desk, "drop a 0", "ok")
        self.check_said(desk, "show b", RESTS)

    def test_add(self):
        desk = kept(("a", "fractions 2\ncolumns 0 1"))
        rows = ["x, 1", "-x^2 - 1/2*y^2, 0", "x, 1", "0, 3", "x^4, y^3"]
        for number, row in enumerate(rows):
            self.check_said(desk, "add a " + row, "ok")
            self.check_said(desk, "show a", "\n".join(["fractions 2", "columns 0 1"] + rows[:number + 1]))
        self.check_refused(desk, TooMany, "add a x, 1", "a")
        self.check_refused(desk, NoRow, "add a 0, 0", "a")
        self.check_refused(desk, NoText, "add a 0", "a")
        desk.say("drop a 4")
        self.check_refused(desk, NoRow, "add a 0, 0", "a")
        self.check_said(desk, "add a y, 2", "ok")

    def test_five_and_six_rows(self):
        desk = kept(("a", FIVE), ("b", SQUARES))
        self.check_said(desk, "show a", FIVE)
        self.check_refused(desk, TooMany, "table a\n" + SIX, "ab")
        self.check_refused(desk, TooMany, "table b\n" + SIX, "ab")
        self.check_refused(desk, TooMany, "table c\n" + SIX, "ab")
        self.check_refused(desk, NoName, "show c")
        self.check_refused(desk, NoText, "table c\n" + SIX + "\n0", "ab")
        self.check_refused(desk, TooMany, "add a x", "ab")

    def test_drop(self):
        for number in range(5):
            desk = kept(("a", FIVE))
            self.check_said(desk, f"drop a {number}", "ok")
            lines = FIVE.split("\n")
            self.check_said(desk, "show a", "\n".join(lines[:2 + number] + lines[3 + number:]))
        desk = kept(("a", FIVE), ("b", "rests 2 1\ncolumns 0"))
        for number in ("5", "-1", "-5", "6", "100", "9" * 30, "-" + "9" * 30):
            self.check_refused(desk, NoRow, "drop a " + number, "ab")
        for number in NUMBERS:
            self.check_refused(desk, NoRow, "drop b " + number, "ab")

    def test_turn(self):
        chance = random.Random(313)
        for ring, columns, table in some_tables(chance):
            desk = kept(("a", show_table(ring, columns, table)))
            letters = ring.letters()
            for letter in range(-1, letters + 1):
                for other in range(-1, letters + 1):
                    number = int(chance.choice(NUMBERS))
                    row = f"turn a {letter} {other} {number}"
                    if letter == other or not {letter, other} <= set(range(letters)):
                        self.check_refused(desk, NoTurn, row, "a")
                        continue
                    places = range(letters)
                    turn = [[ring.numbers().of(int(own == place)) for place in places] for own in places]
                    turn[letter][other] = ring.numbers().of(number)
                    table = turned_table(ring, turn, table)
                    self.check_said(desk, row, "ok")
                    self.check_said(desk, "show a", show_table(ring, columns, table))
                    # Turned back, so that the numbers don't grow.
                    turn[letter][other] = ring.numbers().of(-number)
                    table = turned_table(ring, turn, table)
                    self.check_said(desk, f"turn a {letter} {other} {-number}", "ok")
                    self.check_said(desk, "show a", show_table(ring, columns, table))

    def test_turn_by_thirty_figures(self):
        great = 10 ** 29 + 3
        desk = kept(("a", "fractions 2\ncolumns 0\nx^2"), ("b", "rests 7 2\ncolumns 0\nx^2"))
        self.check_said(desk, f"turn a 0 1 -{great}", "ok")
        self.check_said(desk, "show a", f"fractions 2\ncolumns 0\nx^2 - {2 * great}*x*y + {great ** 2}*y^2")
        self.assertEqual(-great % 7, 6)
        self.check_said(desk, f"turn b 0 1 -{great}", "ok")
        self.check_said(desk, "show b", "rests 7 2\ncolumns 0\nx^2 + 5*x*y + y^2")
        for number in ("9" * 30, "-" + "9" * 30):
            for row in (f"turn a {number} 0 1", f"turn a 0 {number} 1", f"turn a {number} {number} 1"):
                self.check_refused(desk, NoTurn, row, "ab")


class Refusals(DeskCase):
    ROWS = ["show {}", "whole {}", "in {} x", "thin {}", "count {} 3", "polynomial {}", "same {} {}", "same {} a",
            "same a {}",
            "add {} x^2", "drop {} 0", "turn {} 0 1 2"]

    def test_what_is_no_text(self):
        desk = kept(("a", SQUARES))
        for thing in [thing for thing in ODD_THINGS if not isinstance(thing, str)] + [0, [], ["show a"], ("show a",),
                      {}]:
            self.check_refused(desk, NoText, thing, "a")

    def test_rows_that_are_none(self):
        desk = kept(("a", SQUARES), ("b", RESTS))
        for row in ["", " ", "a", "show", "show ", "show  a", " show a", "show a ", "show a b", "show a\n",
                    "\nshow a", "show\na",
                    "Show a", "shows a", "SHOW a", "whole", "whole a b", "whole a 1", "in", "in ", "in a", "in  a x",
                    "in a x\n",
                    "in a\nx", "in a x\ny", "thin", "thin a a", "thin a ", "count", "count a", "count a ",
                    "count a 1 2",
                    "count a 1 ", "count a  1", "polynomial", "polynomial a 1", "same", "same a", "same a ",
                    "same a b ",
                    "same a b b", "same a  b", "same a b\n", "add", "add a", "add a x\n", "add\na x", "drop",
                    "drop a", "drop a 0 0",
                    "drop a 0 ", "drop a 0\n", "turn", "turn a", "turn a 0", "turn a 0 1", "turn a 0 1 ",
                    "turn a 0 1 2 3",
                    "turn a 0 1  2", "turn a 0 1 2\n", "table", "table a", "table a ",
                    "table\n" + SQUARES, "table \n" + SQUARES,
                    "table a \n" + SQUARES, "table  a\n" + SQUARES, " table a\n" + SQUARES, "table a b\n" + SQUARES,
                    "table a " + SQUARES, "\ntable a\n" + SQUARES, "Table a\n" + SQUARES, "tables a\n" + SQUARES,
                    "table a\n\n" + SQUARES, "table a\n" + SQUARES + "\n", "table a\n", "table a\n ", "help", "quit",
                    "list",
                    "table a\tb\n" + SQUARES, "kept a", "rank a", "0", "show\ta", "x^2", SQUARES]:
            self.check_refused(desk, NoText, row, "ab")

    def test_names(self):
        desk = Desk()
        for name in ("a", "z", "table", "show", "abcdefgh", "in", "zzzzzzzz", "x"):
            self.check_said(desk, f"table {name}\n{SQUARES}", "ok")
            self.check_said(desk, "show " + name, SQUARES)
        for name in NO_NAMES:
            self.check_refused(desk, NoText, f"table {name}\n{SQUARES}", "a")
            for row in self.ROWS:
                self.check_refused(desk, NoText, row.format(name, name), "a")

    def test_no_name(self):
        desk = kept(("a", SQUARES))
        for name in ("b", "aa", "abcdefgh", "show"):
            for row in self.ROWS:
                self.check_refused(desk, NoName, row.format(name, name), "a")

    def test_numbers(self):
        desk = kept(("a", SQUARES))
        for word in NO_NUMBERS:
            for row in (f"count a {word}", f"drop a {word}", f"turn a {word} 1 2", f"turn a 0 {word} 2",
                f"turn a 0 1 {word}"):
                self.check_refused(desk, NoText, row, "a")
                # Names are asked for later.
                self.check_refused(desk, NoText, row.replace(" a ", " none ", 1), "a")

    def test_levels(self):
        desk = kept(("a", "rests 3 1\ncolumns -20"))
        for level in range(-100, 101):
            self.check_said(desk, f"count a {level}", "1" if level >= -20 else "0")
        for level in (-101, 101, -1000, 10 ** 29, -10 ** 29, GREAT):
            self.check_refused(desk, NoText, f"count a {level}", "a")
            self.check_refused(desk, NoText, f"count none {level}", "a")

    def test_in_the_order_told(self):
        """What is no row, then a name, then a table's text or a ROW, then the rest."""
        desk = kept(("a", SQUARES), ("five", FIVE))
        for row, refusal in [
                ("in none x +", NoName), ("in none ", NoName), ("in a ", NoText), ("in a x +", NoText), ("in a x, y",
                NoText),
                ("in a x + 1", NoText), ("in a z", NoText), ("in a  x", NoText), ("in a x ", NoText), ("in A x",
                NoText),
                ("add none 0", NoName), ("add none x +", NoName), ("add none ", NoName), ("add a ", NoText),
                ("add a 0 ", NoText),
                ("add a 0", NoRow), ("add five 0", NoRow), ("add five x, y", NoText), ("add five x", TooMany),
                ("add five 00", NoText), ("drop none 7", NoName), ("drop none x", NoText), ("drop a 7", NoRow),
                ("drop a -1", NoRow),
                ("turn none 9 9 1", NoName), ("turn none 9 9 x", NoText), ("turn a 0 0 1", NoTurn), ("turn a 2 0 1",
                NoTurn),
                ("turn a 0 2 1", NoTurn), ("turn a -1 0 1", NoTurn), ("turn a 0 0 0", NoTurn), ("same none a", NoName),
                ("same a none", NoName), ("same a None", NoText), ("same none 1", NoText), ("count none 101", NoText),
                ("table A\n" + SIX, NoText), ("table a\nx", NoText), ("table new\n" + SIX, TooMany),
                ("table new\n" + SIX + "\nx ", NoText)]:
            self.check_refused(desk, refusal, row, ("a", "five"))

    def test_rows_of_the_tables_ring_and_columns(self):
        desk = kept(("a", RESTS))
        for row in ("x, 0", "6*x, 2*x*y", "0, 1", "0, 0"):
            self.assertIn(desk.say("in a " + row), ("yes", "no"))
        for row in ("x", "7*x, 0", "-x, 0", "1/2*x, 0", "x, y", "w, 0", "x, 0, 0", "x,0", "x + y, x^2 - y^2"):
            self.check_refused(desk, NoText, "in a " + row, "a")
            self.check_refused(desk, NoText, "add a " + row, "a")


class Length(DeskCase):
    def test_long_texts(self):
        """Two thousand signs and somewhat more."""
        parts = [f"{10 ** 30 - place}/{10 ** 30 - place - 1}*x^{30 - place}*y^{place}" for place in range(2, 29)]
        text = "fractions 2\ncolumns 0\n" + " - ".join(parts)
        self.assertGreater(len(text), 1900)
        desk = kept(("a", text))
        self.check_said(desk, "show a", text)
        self.check_said(desk, "in a " + " - ".join(parts), "yes")
        self.check_said(desk, "thin a", "0 | 30")
