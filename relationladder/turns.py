"""Sums and tables turned: each letter becomes a sum of all letters, everywhere, at once."""

from relationladder.errors import NoTurn
from relationladder.numbers import top_and_bottom
from relationladder.packing import packed
from relationladder.packing import unpacked
from relationladder.plain import rank
from relationladder.products import degree
from relationladder.sums import sum_of
from relationladder.vectors import mixed
from relationladder.vectors import over_one_bottom


def turned_sum(ring, turn, one):
    check_turn(ring, turn)
    return Turning(ring, turn).turned(one)


def turned_table(ring, turn, table):
    check_turn(ring, turn)
    turning = Turning(ring, turn)
    return [[turning.turned(entry) for entry in row] for row in table]


def check_turn(ring, turn):
    letters = ring.letters()
    if not is_list_of(letters, turn) or not all([is_list_of(letters, own) for own in turn]):
        raise NoTurn("a turn has a list for each letter, with a number for each letter")
    for own in turn:
        if not all([ring.numbers().is_number(number) for number in own]):
            raise NoTurn("a turn is made of numbers of the ring")
    if rank(ring.numbers(), turn) != letters:
        raise NoTurn("no list of a turn is made of the others")


def is_list_of(many, thing):
    return isinstance(thing, list) and len(thing) == many


def lone_letter(letters, place):
    return tuple([1 if own == place else 0 for own in range(letters)])


# What becomes of the letters is kept as whole numbers over one bottom: so bottoms are met only at the end.
class Turning:
    def __init__(self, ring, turn):
        self.own_ring = ring
        self.modulus = ring.numbers().prime()
        terms = []
        for letter, own in enumerate(turn):
            for place, number in enumerate(own):
                fraction = top_and_bottom(ring.numbers(), number)
                terms.append(((letter, place), fraction[0], fraction[1]))
        vector = over_one_bottom(terms)
        self.bottom = vector[1]
        # For each letter tuples (top, letter packed): what it becomes.
        self.becomes = [[] for letter in range(ring.letters())]
        for key, top in vector[0].items():
            self.becomes[key[0]].append((top, packed(lone_letter(ring.letters(), key[1]))))

    def turned(self, one):
        found = []
        for own in sorted(set([degree(product) for product, number in one])):
            found.extend(self.turned_level([part for part in one if degree(part[0]) == own], own))
        return sum_of(self.own_ring, found)

    # Parts of one degree: so the bottom of the turn stands there as often in all of them.
    def turned_level(self, parts, own):
        numbers = self.own_ring.numbers()
        terms = []
        for product, number in parts:
            fraction = top_and_bottom(numbers, number)
            terms.append((product, fraction[0], fraction[1]))
        vector = over_one_bottom(terms)
        bottom = vector[1]
        for step in range(own):
            bottom = bottom * self.bottom
        turned = self.put(0, vector[0])
        return [(unpacked(self.own_ring.letters(), key), numbers.of(top, bottom)) for key, top in turned[0].items()]

    # A dict from products, of the letters from this one on, to whole numbers. Taken by how often the letter stands
    # there, the most often first, each of what was put so far is multiplied once more.
    def put(self, letter, tops):
        if letter == self.own_ring.letters():
            return ({0: tops[()]}, 1)
        found = ({}, 1)
        for often in range(max([product[0] for product in tops]), -1, -1):
            shares = [(top, 1, shift, found) for top, shift in self.becomes[letter]]
            behind = dict([(product[1:], top) for product, top in tops.items() if product[0] == often])
            if behind != {}:
                shares.append((1, 1, 0, self.put(letter + 1, behind)))
            found = mixed(self.modulus, shares)
        return found
