"""Rows that others are divided by, and the division."""

from relationladder.numbers import greatest_divisor
from relationladder.numbers import inverse
from relationladder.packing import FREE_BIT
from relationladder.packing import same_in_all
from relationladder.vectors import cancelled
from relationladder.vectors import common_divisor

SPARE_BITS = 256


# Rows over a frame, none of noughts alone, each kept as a multiple of it by a number.
#
# Of fractions the kept rows have whole numbers without a common divisor, the first above nought; of rests the first
# one is 1. So no division meets bottoms that it could be spared.
class Basis:
    def __init__(self, frame, modulus):
        self.frame = frame
        self.modulus = modulus
        self.free = same_in_all(frame.width, FREE_BIT)
        self.leads = []
        self.firsts = []
        self.tails = []
        self.standing = [[] for place in range(frame.many_places())]
        self.known = {}

    def many_rows(self):
        return len(self.leads)

    def add_row(self, tops):
        row = len(self.leads)
        lead = max(tops)
        self.leads.append(lead)
        self.firsts.append(1)
        self.tails.append([])
        self.set_row(row, tops)
        place = self.frame.place(lead)
        self.standing[place] = sorted(self.standing[place] + [(self.frame.packed_product(lead), row)])
        # What was found for terms so far may be another row now.
        self.known = {}
        return row

    # Another row with the lead that the row has.
    def set_row(self, row, tops):
        lead = self.leads[row]
        behind = [(key, top) for key, top in tops.items() if key != lead]
        if self.modulus != 0:
            factor = inverse(tops[lead], self.modulus)
            self.tails[row] = [(key, top * factor % self.modulus) for key, top in behind]
            return
        common = common_divisor(tops, abs(tops[lead]))
        if tops[lead] < 0:
            common = -common
        self.firsts[row] = tops[lead] // common
        self.tails[row] = [(key, top // common) for key, top in behind]

    # The row with the lead number 1.
    def vector(self, row):
        tops = dict(self.tails[row])
        tops[self.leads[row]] = self.firsts[row]
        return (tops, self.firsts[row])

    # Of the rows that a term is under the one with the least product as tuples are compared, or None. Climbs and towers
    # rest on this choice.
    def reducer(self, key):
        if key not in self.known:
            self.known[key] = self.sought(key)
        return self.known[key]

    def sought(self, key):
        product = self.frame.packed_product(key) + self.free
        for lead, row in self.standing[self.frame.place(key)]:
            if (product - lead) & self.free == self.free:
                return row
        return None


# A vector's division: terms are taken from the uppermost on, and those under a row are taken off with it.
#
# Steps are tuples (row, shift, top, bottom): so many times the row, made to have the lead number 1, was taken off.
# The rest are terms (key, top, bottom), falling.
class Division:
    def __init__(self, basis, vector):
        self.basis = basis
        self.tops = dict(vector[0])
        self.bottom = vector[1]
        self.waiting = sorted(self.tops)
        self.most_bits = 2 * self.bottom.bit_length() + SPARE_BITS
        self.steps = []
        self.rest = []
        while self.waiting != []:
            self.settle(self.waiting.pop())

    def settle(self, key):
        top = self.tops.pop(key)
        if self.basis.modulus != 0:
            top = top % self.basis.modulus
        if top == 0:
            return
        row = self.basis.reducer(key)
        if row is None:
            self.rest.append((key, top, self.bottom))
            return
        shift = key - self.basis.leads[row]
        self.steps.append((row, shift, top, self.bottom))
        self.take_off(shift, self.scaled_top(top, self.basis.firsts[row]), self.basis.tails[row])
        self.cancel()

    # What still waits is multiplied such that the kept row's first number goes into the top.
    def scaled_top(self, top, first):
        if first == 1:
            return top
        common = greatest_divisor(first, top)
        factor = first // common
        if factor != 1:
            self.tops = dict([(key, own * factor) for key, own in self.tops.items()])
            self.bottom = self.bottom * factor
        return top // common

    def take_off(self, shift, top, tail):
        tops = self.tops
        new = []
        for key, own in tail:
            moved = key + shift
            if moved in tops:
                tops[moved] -= top * own
            else:
                tops[moved] = -top * own
                new.append(moved)
        if new != []:
            self.waiting = sorted(self.waiting + new)

    # To seek common divisors costs more than a step; so it waits until the bottom has grown well.
    def cancel(self):
        if self.bottom.bit_length() > self.most_bits:
            lowest = cancelled(self.tops, self.bottom)
            self.tops = lowest[0]
            self.bottom = lowest[1]
            self.most_bits = 2 * self.bottom.bit_length() + SPARE_BITS
