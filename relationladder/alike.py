"""Rows of one level after the other, two of them alike where they differ by a mixture of a table's rows.

Of each level some terms stand for all: each row is alike to just one row in which no other terms are. They are found by
elimination alone, a level from the one beneath it.
"""

from relationladder.echelons import Echelon
from relationladder.numbers import top_and_bottom
from relationladder.packing import degree_frame
from relationladder.packing import packed
from relationladder.products import degree
from relationladder.rows import row_level
from relationladder.vectors import mixed

# Behind the key of a term there is room for the number of a choice: of four letters there are six choices of two.
CHOICE_BITS = 3


# Choices of so many letters, the letters of each in their order.
def choices(letters, many):
    if many == 0:
        return [()]
    found = []
    for chosen in choices(letters, many - 1):
        start = chosen[-1] + 1 if chosen != () else 0
        found.extend([chosen + (letter,) for letter in range(start, letters)])
    return found


# A term with a choice of letters has as key the one of the term and the offset of the choice, together. So these keys
# are ordered by the terms times the letters chosen: the orders of all levels go along with one another, which keeps
# what is to be eliminated small.
class Alike:
    def __init__(self, ring, columns, table, most):
        self.own_ring = ring
        self.own_columns = list(columns)
        self.modulus = ring.numbers().prime()
        self.frame = degree_frame(ring.letters(), len(columns))
        self.choices_of = [choices(ring.letters(), many) for many in range(ring.letters() + 1)]
        self.offsets = self.choice_offsets()
        # Columns stand above all else: so those go that a row tells by the others.
        self.column_top = packed((1,) + tuple([0 for letter in range(ring.letters())])) << CHOICE_BITS
        # By levels: the keys of the terms that stand for all; what each of them, times each letter, is alike to; and
        # the ranks of what choices lead to. By places: what each column is alike to.
        self.standing_keys = {}
        self.raised = {}
        self.ranks = {}
        self.column_vectors = {}
        levels = [row_level(columns, row) for row in table]
        for level in range(min(columns, default=most + 1), most + 1):
            self.rise(level, [row for row, own in zip(table, levels) if own == level])

    def choice_offsets(self):
        found = {}
        letters = self.own_ring.letters()
        for all_chosen in self.choices_of:
            for number, chosen in enumerate(all_chosen):
                product = tuple([1 if letter in chosen else 0 for letter in range(letters)])
                found[chosen] = (self.frame.shift(product) << CHOICE_BITS) + number
        return found

    def keys_at(self, level):
        return self.standing_keys.get(level, [])

    # The rank of what comes of the choices of so many letters; with none, nothing is led on.
    def rank_at(self, level, many):
        return self.ranks[level].get(many, 0)

    # The rows of a level are told by the terms beneath, each times a letter, and by columns. What choices of two
    # letters lead to is nought there: one row told by either letter. The table's rows are alike to nought as well. Of
    # what is left, the columns alone don't come of a letter.
    def rise(self, level, rows):
        ranks = {}
        led = Echelon(self.modulus)
        for many in range(self.own_ring.letters(), 1, -1):
            led = self.led_on(level, many, led)
            ranks[many] = led.many_rows()
        for row in rows:
            led.take(self.row_vector(row)[0])
        self.settle(level, led)
        stay = [place for place in self.columns_of(level) if not led.has_lead(self.column_key(place))]
        ranks[1] = len(self.keys_at(level)) - len(stay)
        self.ranks[level] = ranks

    # What was led here from choices of one letter more is led to nought; so what comes of its leads comes of the other
    # terms of the level, too.
    def led_on(self, level, many, ahead):
        found = Echelon(self.modulus)
        for key in self.keys_at(level - many):
            for chosen in self.choices_of[many]:
                if not ahead.has_lead(key + self.offsets[chosen]):
                    found.take(self.led_row(self.raised[level - many][key], chosen))
        return found

    def led_row(self, raised, chosen):
        shares = []
        for number, letter in enumerate(chosen):
            sign = 1 if number & 1 == 0 else -1
            shares.append((sign, 1, self.offsets[chosen[:number] + chosen[number + 1:]], raised[letter]))
        return mixed(self.modulus, shares)[0]

    # The choice of a letter there is the letter that the term is multiplied by.
    def row_vector(self, row):
        shares = []
        for place, entry in enumerate(row):
            for product, number in entry:
                fraction = top_and_bottom(self.own_ring.numbers(), number)
                shares.append((fraction[0], fraction[1]) + self.term_share(place, product))
        return mixed(self.modulus, shares)

    def term_share(self, place, product):
        if degree(product) == 0:
            return (0, ({self.column_key(place): 1}, 1))
        letter = max([own for own, often in enumerate(product) if often > 0])
        beneath = product[:letter] + (product[letter] - 1,) + product[letter + 1:]
        return (self.offsets[(letter,)], self.term_vector(place, beneath))

    def term_vector(self, place, product):
        vector = self.column_vectors[place]
        level = self.own_columns[place]
        for letter, often in enumerate(product):
            for step in range(often):
                raised = self.raised[level]
                shares = [(top, vector[1], 0, raised[key][letter]) for key, top in vector[0].items()]
                vector = mixed(self.modulus, shares)
                level = level + 1
        return vector

    # What is no lead stands for all. Of the keys that come to one term at most one is no lead, since the others are
    # told by it.
    def settle(self, level, led):
        others = led.leads_as_others()
        raised = {}
        reached = [self.column_key(place) for place in self.columns_of(level)]
        for key in self.keys_at(level - 1):
            keys = [key + self.offsets[chosen] for chosen in self.choices_of[1]]
            raised[key] = [self.alike_vector(others, own) for own in keys]
            reached.extend(keys)
        self.raised[level - 1] = raised
        for place in self.columns_of(level):
            self.column_vectors[place] = self.alike_vector(others, self.column_key(place))
        self.standing_keys[level] = sorted([self.term_key(key) for key in reached if not led.has_lead(key)])

    def alike_vector(self, others, key):
        if key not in others:
            return ({self.term_key(key): 1}, 1)
        vector = others[key]
        return (dict([(self.term_key(own), top) for own, top in vector[0].items()]), vector[1])

    # The key of the term that a term with a letter, or a column, comes to.
    def term_key(self, key):
        if key >= self.column_top:
            return key - self.column_top
        return (key >> CHOICE_BITS) << CHOICE_BITS

    def columns_of(self, level):
        return [place for place, own in enumerate(self.own_columns) if own == level]

    def column_key(self, place):
        return self.column_top + (self.frame.offsets[place] << CHOICE_BITS)
