"""The names and arguments of the interface, as they stand in the document."""

import importlib
import inspect
import unittest

FUNCTIONS = {
    "products": [
        "is_product(thing, letters)", "product_times(one, other)", "divides(one, other)", "product_over(one, other)",
        "least_common(one, other)", "degree(one)", "is_above(one, other)", "all_products(letters, degree)",
    ],
    "sums": [
        "Ring(numbers, letters)", "is_sum(ring, thing)", "sum_of(ring, parts)", "plus(ring, one, other)",
        "minus(ring, one, other)", "times(ring, one, other)", "scaled(ring, one, number)", "is_level(one)",
        "level(one)",
    ],
    "rows": [
        "is_row(ring, columns, thing)", "is_table(ring, columns, thing)", "row_level(columns, row)",
        "row_plus(ring, one, other)", "row_minus(ring, one, other)", "row_times(ring, row, one)",
        "mixture(ring, many, rows, multiples)",
    ],
    "leads": ["lead(columns, row)"],
    "rests": ["rest(ring, columns, table, row)"],
    "wholes": ["whole(ring, columns, table)", "whole_with(ring, columns, table)"],
    "judging": ["judged(ring, columns, table, row)"],
    "relations": ["relations(ring, columns, table)"],
    "ladders": ["Ladder(ring, columns, table)"],
    "struck": ["Struck(ladder)"],
    "counting": [
        "count(ring, columns, table, level)", "count_row(ring, columns, table)",
        "count_polynomial(ring, columns, table)",
    ],
    "plain": [
        "rank(numbers, lists)", "plain_count(ring, columns, table, level)", "plain_degrees(ring, columns, table, most)",
    ],
    "maps": ["carried(ladder, other, first)", "aside(ladder, other, maps)"],
    "turns": ["turned_sum(ring, turn, one)", "turned_table(ring, turn, table)"],
    "texts": [
        "show_sum(ring, one)", "show_row(ring, row)", "show_table(ring, columns, table)", "read_sum(ring, text)",
        "read_row(ring, columns, text)", "read_table(text)",
    ],
    "desk": ["Desk()"],
    "numbers": ["Fractions()", "Rests(prime)"],
}

METHODS = {
    ("numbers", "Fractions"): [
        "prime(self)", "is_number(self, thing)", "of(self, top, bottom=1)", "plus(self, one, other)",
        "minus(self, one, other)", "times(self, one, other)", "over(self, one, other)",
    ],
    ("sums", "Ring"): ["numbers(self)", "letters(self)"],
    ("ladders", "Ladder"): ["ring(self)", "columns(self)", "many(self)", "rungs(self)", "told(self, k, row)"],
    ("struck", "Struck"): [
        "kept(self)", "columns(self)", "rungs(self)", "there(self, stand)", "back(self, stand)", "degrees(self)",
    ],
}
METHODS["desk", "Desk"] = ["say(self, row)"]
METHODS["numbers", "Rests"] = METHODS["numbers", "Fractions"]


def module(name):
    return importlib.import_module("relationladder." + name)


class Interface(unittest.TestCase):
    def check(self, holder, told):
        name = told.partition("(")[0]
        self.assertEqual(name + str(inspect.signature(getattr(holder, name))), told)

    def test_functions_and_classes(self):
        for name, all_told in FUNCTIONS.items():
            for told in all_told:
                self.check(module(name), told)

    def test_methods(self):
        for (name, holder), all_told in METHODS.items():
            for told in all_told:
                self.check(getattr(module(name), holder), told)
