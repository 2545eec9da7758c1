"""Sums, rows and tables written as texts, and read."""

from relationladder.errors import NoText
from relationladder.numbers import Fractions
from relationladder.numbers import is_prime
from relationladder.numbers import Rests
from relationladder.products import degree
from relationladder.rows import is_row
from relationladder.rows import is_table
from relationladder.sums import MOST_LETTERS
from relationladder.sums import Ring
from relationladder.sums import sum_of

LETTERS = "xyzw"
FIGURES = "0123456789"
MOST_COLUMNS = 3


def show_sum(ring, one):
    if one == []:
        return "0"
    numbers = ring.numbers()
    found = []
    for product, number in one:
        below = is_below_nought(numbers, number)
        found.append("-" if below else "+")
        found.append(show_part(numbers, product, without_sign(numbers, number)))
    text = " ".join(found[1:])
    return "-" + text if found[0] == "-" else text


def show_row(ring, row):
    return ", ".join([show_sum(ring, entry) for entry in row])


def show_table(ring, columns, table):
    lines = [show_ring(ring), " ".join(["columns"] + [str(own) for own in columns])]
    return "\n".join(lines + [show_row(ring, row) for row in table])


def show_ring(ring):
    prime = ring.numbers().prime()
    letters = ring.letters()
    return f"fractions {letters}" if prime == 0 else f"rests {prime} {letters}"


# No rest is below nought.
def is_below_nought(numbers, number):
    return numbers.prime() == 0 and number[0] < 0


def without_sign(numbers, number):
    return (-number[0], number[1]) if is_below_nought(numbers, number) else number


def show_part(numbers, product, number):
    if degree(product) == 0:
        return show_number(numbers, number)
    if number == numbers.of(1):
        return show_product(product)
    return show_number(numbers, number) + "*" + show_product(product)


def show_number(numbers, number):
    if numbers.prime() != 0:
        return str(number)
    return show_fraction(number)


def show_fraction(fraction):
    return str(fraction[0]) if fraction[1] == 1 else str(fraction[0]) + "/" + str(fraction[1])


def show_product(product):
    found = []
    for letter, often in enumerate(product):
        if often > 0:
            found.append(LETTERS[letter] if often == 1 else LETTERS[letter] + "^" + str(often))
    return "*".join(found)


# Texts are read without much care; then just those are taken that write what was read.
def read_sum(ring, text):
    check_text(text)
    one = rough_sum(ring, text)
    check_written(show_sum(ring, one), text)
    return one


def read_row(ring, columns, text):
    check_text(text)
    row = [read_sum(ring, entry) for entry in text.split(", ")]
    if not is_row(ring, columns, row):
        raise NoText("the text writes no row over the columns")
    return row


def read_table(text):
    check_text(text)
    lines = text.split("\n")
    if len(lines) < 2:
        raise NoText("a table is written with its ring and its columns")
    ring = rough_ring(lines[0].split(" "))
    columns = rough_columns(lines[1].split(" "))
    table = [read_row(ring, columns, line) for line in lines[2:]]
    if not is_table(ring, columns, table):
        raise NoText("a table has no row of noughts alone")
    check_written(show_table(ring, columns, table), text)
    return (ring, columns, table)


def check_text(thing):
    if not isinstance(thing, str):
        raise NoText("what is read is a text")


def check_written(written, text):
    if written != text:
        raise NoText("what the text tells is written in another way")


def rough_ring(words):
    wholes = [rough_figures(word) for word in words[1:]]
    if wholes == [] or wholes[-1] < 1 or wholes[-1] > MOST_LETTERS:
        raise NoText("a ring has one to four letters")
    if words[0] == "fractions" and len(wholes) == 1:
        return Ring(Fractions(), wholes[0])
    if words[0] == "rests" and len(wholes) == 2 and is_prime(wholes[0]):
        return Ring(Rests(wholes[0]), wholes[1])
    raise NoText("there is no such kind of numbers")


def rough_columns(words):
    if words[0] != "columns" or not all([is_whole_text(word) for word in words[1:]]):
        raise NoText("columns are told by whole numbers")
    if len(words) < 2 or len(words) > MOST_COLUMNS + 1:
        raise NoText("there are one to three columns")
    return [int(word) for word in words[1:]]


def is_figures(text):
    return text != "" and all([sign in FIGURES for sign in text])


def is_whole_text(text):
    figures = text[1:] if text.startswith("-") else text
    return is_figures(figures) and str(int(text)) == text


# Signs and parts stand by turns; a first sign is left out, or has no blank behind it.
def rough_sum(ring, text):
    if text == "0":
        return []
    words = text.split(" ")
    below = words[0].startswith("-")
    signs = ["-" if below else "+"] + words[1::2]
    bodies = [words[0][1:] if below else words[0]] + words[2::2]
    if len(signs) != len(bodies):
        raise NoText("between two parts there is a sign")
    found = []
    for sign, body in zip(signs, bodies):
        part = rough_part(ring, body)
        factor = ring.numbers().of(-1 if sign == "-" else 1)
        found.append((part[0], ring.numbers().times(part[1], factor)))
    return sum_of(ring, found)


def rough_part(ring, text):
    factors = text.split("*")
    number = ring.numbers().of(1)
    if is_figures(factors[0][:1]):
        number = rough_number(ring.numbers(), factors[0])
        factors = factors[1:]
    oftens = [0 for letter in range(ring.letters())]
    for factor in factors:
        power = factor.partition("^")
        letter = letter_number(ring, power[0])
        oftens[letter] = oftens[letter] + (1 if power[1] == "" else rough_figures(power[2]))
    return (tuple(oftens), number)


def letter_number(ring, text):
    for letter in range(ring.letters()):
        if text == LETTERS[letter]:
            return letter
    raise NoText("the ring has no such letter")


def rough_number(numbers, text):
    fraction = text.partition("/")
    top = rough_figures(fraction[0])
    if fraction[1] == "":
        return numbers.of(top)
    bottom = rough_figures(fraction[2])
    if numbers.prime() != 0 or bottom == 0:
        raise NoText("a rest has no bottom, and no bottom is nought")
    return numbers.of(top, bottom)


def rough_figures(text):
    if not is_figures(text):
        raise NoText("a whole number is written by figures")
    return int(text)
