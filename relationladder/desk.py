"""A desk that keeps tables by names, is told rows, and answers each with a text."""

from relationladder.counting import count
from relationladder.counting import count_polynomial
from relationladder.errors import NoName
from relationladder.errors import NoRow
from relationladder.errors import NoText
from relationladder.errors import NoTurn
from relationladder.errors import TooMany
from relationladder.judging import is_mixture
from relationladder.struck import thin_degrees
from relationladder.texts import is_whole_text
from relationladder.texts import read_row
from relationladder.texts import read_table
from relationladder.texts import show_fraction
from relationladder.texts import show_table
from relationladder.turns import turned_table
from relationladder.wholes import same_whole
from relationladder.wholes import whole

SMALL_LETTERS = "abcdefghijklmnopqrstuvwxyz"
MOST_IN_NAME = 8
MOST_FIGURES = 30
GREATEST_LEVEL = 100
MOST_ROWS = 5

# What stands behind the first word of each row.
FORMS = {
    "table": ("name",),
    "show": ("name",),
    "whole": ("name",),
    "in": ("name", "row"),
    "thin": ("name",),
    "count": ("name", "level"),
    "polynomial": ("name",),
    "same": ("name", "name"),
    "add": ("name", "row"),
    "drop": ("name", "whole"),
    "turn": ("name", "whole", "whole", "whole"),
}


# By each name a tuple (ring, columns, table) is kept. No kept table is changed: another one takes its place at the end
# of a deed. So what is refused on the way changes nothing.
class Desk:
    def __init__(self):
        self.kept_tables = {}

    def say(self, row):
        words = words_of(row)
        if words[0] == "table":
            return self.keep_new(words[1], row.partition("\n")[2])
        kept = self.kept_table(words[1])
        if words[0] == "same":
            return yes_or_no(is_same(kept, self.kept_table(words[2])))
        if words[0] in ("add", "drop", "turn"):
            self.kept_tables[words[1]] = (kept[0], kept[1], changed_table(kept[0], kept[1], kept[2], words))
            return "ok"
        return answer(kept[0], kept[1], kept[2], words)

    def keep_new(self, name, text):
        kept = read_table(text)
        if len(kept[2]) > MOST_ROWS:
            raise TooMany("a table that is kept has at most five rows")
        self.kept_tables[name] = kept
        return "ok"

    def kept_table(self, name):
        if name not in self.kept_tables:
            raise NoName("nothing is kept by this name")
        return self.kept_tables[name]


# A row's words, each of its kind; what is told as ROW is one word, whatever stands there.
def words_of(row):
    if not isinstance(row, str):
        raise NoText("a desk is told texts")
    lines = row.partition("\n")
    first = lines[0].partition(" ")[0]
    if first not in FORMS or (lines[1] == "\n") != (first == "table"):
        raise NoText("there is no such row")
    form = FORMS[first]
    words = lines[0].split(" ", len(form)) if form[-1] == "row" else lines[0].split(" ")
    if len(words) != len(form) + 1 or not all([is_word(kind, word) for kind, word in zip(form, words[1:])]):
        raise NoText("there is no such row")
    return words


def is_word(kind, word):
    if kind == "name":
        return word != "" and len(word) <= MOST_IN_NAME and all([sign in SMALL_LETTERS for sign in word])
    if kind == "whole":
        return is_short_whole(word)
    if kind == "level":
        return is_short_whole(word) and abs(int(word)) <= GREATEST_LEVEL
    return True


def is_short_whole(word):
    return len(word.lstrip("-")) <= MOST_FIGURES and is_whole_text(word)


def yes_or_no(truth):
    return "yes" if truth else "no"


def is_same(one, other):
    if one[0].numbers().prime() != other[0].numbers().prime() or one[0].letters() != other[0].letters():
        return False
    return one[1] == other[1] and same_whole(one[0], one[1], one[2], other[2])


def answer(ring, columns, table, words):
    if words[0] == "show":
        return show_table(ring, columns, table)
    if words[0] == "whole":
        return show_table(ring, columns, whole(ring, columns, table))
    if words[0] == "in":
        return yes_or_no(is_mixture(ring, columns, table, read_row(ring, columns, words[2])))
    if words[0] == "thin":
        return " | ".join([wholes_text(degrees) for degrees in thin_degrees(ring, columns, table)])
    if words[0] == "count":
        return str(count(ring, columns, table, int(words[2])))
    return polynomial_text(count_polynomial(ring, columns, table))


def wholes_text(wholes):
    return " ".join([str(whole_number) for whole_number in wholes])


def polynomial_text(polynomial):
    if polynomial is None:
        return "none"
    return " ".join([show_fraction(part) for part in polynomial[0]] + [str(polynomial[1])])


def changed_table(ring, columns, table, words):
    if words[0] == "add":
        return with_row(table, read_row(ring, columns, words[2]))
    if words[0] == "drop":
        return without_row(table, int(words[2]))
    return turned_table(ring, step_turn(ring, int(words[2]), int(words[3]), int(words[4])), table)


def with_row(table, row):
    if all([entry == [] for entry in row]):
        raise NoRow("no row of a table is noughts alone")
    if len(table) >= MOST_ROWS:
        raise TooMany("a table that is kept has at most five rows")
    return table + [row]


def without_row(table, number):
    if number < 0 or number >= len(table):
        raise NoRow("there is no such row")
    return table[:number] + table[number + 1:]


# The letter becomes itself and so many times the other one; all other letters stay.
def step_turn(ring, letter, other, often):
    if not is_letter(ring, letter) or not is_letter(ring, other) or letter == other:
        raise NoTurn("a letter takes on another one")
    numbers = ring.numbers()
    turn = [[numbers.of(1 if own == place else 0) for place in range(ring.letters())] for own in range(ring.letters())]
    turn[letter][other] = numbers.of(often)
    return turn


def is_letter(ring, number):
    return 0 <= number and number < ring.letters()
