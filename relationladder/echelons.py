"""Eliminations: rows of whole numbers, each brought to have a lead that no other one has."""

from relationladder.numbers import greatest_divisor
from relationladder.numbers import inverse
from relationladder.vectors import common_divisor
from relationladder.vectors import mixed

SPARE_BITS = 256


# Rows are dicts from keys to whole numbers, and are kept as multiples of them by numbers; a row's lead is its greatest
# key. The modulus is the prime of the rests, or 0 for fractions.
class Echelon:
    def __init__(self, modulus):
        self.modulus = modulus
        # From each lead to the number there and the terms behind it.
        self.led_rows = {}

    def many_rows(self):
        return len(self.led_rows)

    def has_lead(self, key):
        return key in self.led_rows

    # Of a row that is made of those taken so far nothing is left.
    def take(self, tops):
        left = dict(tops)
        waiting = sorted(left)
        grown_bits = 0
        while waiting != []:
            lead = waiting.pop()
            top = left.pop(lead)
            if self.modulus != 0:
                top = top % self.modulus
            if top != 0 and not self.has_lead(lead):
                self.keep_row(lead, top, left)
                return
            if top != 0:
                row = self.led_rows[lead]
                factor = row[0] // greatest_divisor(row[0], top)
                left = scaled_up(left, factor)
                waiting = take_off(left, waiting, top * factor // row[0], row[1])
                grown_bits = grown_bits + factor.bit_length() - 1
            # To seek common divisors costs more than a step; so it waits until the numbers may have grown well.
            if grown_bits > SPARE_BITS:
                left = scaled_down(left, common_divisor(left, 0))
                grown_bits = 0

    def keep_row(self, lead, top, behind):
        if self.modulus != 0:
            factor = inverse(top, self.modulus)
            tail = [(key, own * factor % self.modulus) for key, own in behind.items()]
            self.led_rows[lead] = (1, [(key, own) for key, own in tail if own != 0])
            return
        common = common_divisor(behind, abs(top))
        if top < 0:
            common = -common
        self.led_rows[lead] = (top // common, [(key, own // common) for key, own in behind.items() if own != 0])

    # For each lead the vector that is as much as it, by the rows; no term of that is a lead.
    def leads_as_others(self):
        found = {}
        for lead in sorted(self.led_rows):
            row = self.led_rows[lead]
            plain = dict([(key, own) for key, own in row[1] if key not in found])
            shares = [(-own, row[0], 0, found[key]) for key, own in row[1] if key in found]
            found[lead] = mixed(self.modulus, [(-1, row[0], 0, (plain, 1))] + shares)
        return found


def scaled_up(tops, factor):
    if factor == 1:
        return tops
    return dict([(key, top * factor) for key, top in tops.items()])


def scaled_down(tops, divisor):
    if divisor < 2:
        return tops
    return dict([(key, top // divisor) for key, top in tops.items()])


# The tops are changed; told are the keys that wait now.
def take_off(tops, waiting, factor, tail):
    new = []
    for key, own in tail:
        if key in tops:
            tops[key] -= factor * own
        else:
            tops[key] = -factor * own
            new.append(key)
    return sorted(waiting + new) if new != [] else waiting
