"""What is struck out of the stands of a ladder or a tower, found by the numbers that stand alone in its rungs.

Rungs are tuples (frame, vectors), frames in the order by degrees. A strike is a tuple (place, row, shares): rows of the
next rung, times the numbers of shares and added, have 1 at the place. So the place is a mixture of others: it is
struck out of its stand, and the row of the next one. Shares are a dict from rows to numbers.
"""

from relationladder.bases import Basis
from relationladder.bases import Division
from relationladder.numbers import top_and_bottom
from relationladder.packing import raised_frame
from relationladder.vectors import mixed
from relationladder.vectors import over_one_bottom
from relationladder.vectors import reframed
from relationladder.vectors import unit


# Stands beneath the lowest one are left as they are. Each stand has a frame in which the places of strikes are raised
# such that the mixed row of a strike has its lead there, and a basis of these rows: so nothing of a rest stands there.
class Striking:
    def __init__(self, ring, rungs, stand_degrees, lowest):
        self.own_ring = ring
        self.modulus = ring.numbers().prime()
        self.own_rungs = rungs
        self.strikes = all_strikes(ring.numbers(), rungs, stand_degrees, lowest)
        self.kept_places = all_kept(self.strikes, stand_degrees)
        self.frames = []
        for own, degrees in zip(self.strikes, stand_degrees):
            self.frames.append(raised_frame(ring.letters(), len(degrees), [place for place, row, shares in own]))
        self.bases = [self.stand_basis(stand) for stand in range(len(rungs))]
        self.bases.append(Basis(self.frames[-1], self.modulus))

    def stand_basis(self, stand):
        frame = self.frames[stand]
        vectors = [reframed(vector, self.own_rungs[stand][0], frame) for vector in self.own_rungs[stand][1]]
        return strike_basis(self.own_ring, frame, vectors, self.strikes[stand])

    # Of a vector over a stand what stays over the kept places. What else a rest has stands at rows that are struck out:
    # nothing comes of these.
    def there(self, stand, vector):
        return self.all_there(stand, [vector])[0]

    def all_there(self, stand, vectors):
        basis = self.bases[stand] if len(vectors) == 1 else cleared(self.bases[stand])
        return [self.only_kept(stand, Division(basis, vector).rest) for vector in vectors]

    def only_kept(self, stand, terms):
        kept = dict([(place, True) for place in self.kept_places[stand]])
        return over_one_bottom([term for term in terms if self.frames[stand].place(term[0]) in kept])

    # A row of the thin rung, over the frame of the stand beneath.
    def thin_row(self, stand, place):
        return self.only_kept(stand - 1, self.division(stand, place).rest)

    # A kept place with the rows that were taken off its row: so it goes along with the rungs.
    def back(self, stand, place):
        shares = [(1, 1, 0, unit(self.frames[stand], place))]
        if stand > 0:
            for number, shift, top, bottom in self.division(stand, place).steps:
                shares.append((-top, bottom, shift, self.strike_way(stand - 1, number)))
        return mixed(self.modulus, shares)

    # Of a place of a stand from 1 on, which is a row of the rung beneath.
    def division(self, stand, place):
        rung = self.own_rungs[stand - 1]
        return Division(self.bases[stand - 1], reframed(rung[1][place], rung[0], self.frames[stand - 1]))

    def strike_way(self, stand, number):
        offsets = self.frames[stand + 1].offsets
        shares = fraction_shares(self.own_ring, self.strikes[stand][number][2])
        return over_one_bottom([(offsets[row], top, bottom) for row, top, bottom in shares])


# For each stand its strikes. They are sought from the end on: a row that is struck out as a place can strike nothing.
def all_strikes(numbers, rungs, stand_degrees, lowest):
    found = [[]]
    gone = []
    for stand in range(len(rungs) - 1, -1, -1):
        frame = rungs[stand][0]
        rows = [row for row in range(len(rungs[stand][1])) if row not in gone and stand >= lowest]
        lone = [(row, lone_numbers(numbers, frame, rungs[stand][1][row])) for row in rows]
        strikes = by_falling_degree(strikes_of(numbers, lone), stand_degrees[stand])
        gone = [place for place, row, shares in strikes]
        found.append(strikes)
    return list(reversed(found))


# Where places fall so, the mixed row of a strike has nothing at the places of strikes ahead: what stands there beside
# the lone numbers stands at places of lesser degrees.
def by_falling_degree(strikes, degrees):
    return sorted(strikes, key=lambda strike: -degrees[strike[0]])


# A number stands alone where the product is one: the key is then the offset of the place.
def lone_numbers(numbers, frame, vector):
    found = {}
    for place, key in enumerate(frame.offsets):
        if key in vector[0]:
            found[place] = numbers.of(vector[0][key], vector[1])
    return found


def strikes_of(numbers, rows_and_lone):
    found = []
    taken = []
    for row, lone in rows_and_lone:
        left = lone
        shares = {row: numbers.of(1)}
        for place, other, other_shares in taken:
            if place in left:
                factor = left[place]
                left = less_multiple(numbers, left, factor, other)
                shares = less_multiple(numbers, shares, factor, other_shares)
        if left != {}:
            place = min(left)
            shares = divided_by(numbers, shares, left[place])
            taken.append((place, divided_by(numbers, left, left[place]), shares))
            found.append((place, row, shares))
    return found


def less_multiple(numbers, one, factor, other):
    found = dict(one)
    for place, number in other.items():
        found[place] = numbers.minus(found.get(place, numbers.of(0)), numbers.times(factor, number))
    return dict([(place, number) for place, number in found.items() if number != numbers.of(0)])


def divided_by(numbers, one, divisor):
    return dict([(place, numbers.over(number, divisor)) for place, number in one.items()])


def all_kept(strikes, stand_degrees):
    found = []
    rows = []
    for own, degrees in zip(strikes, stand_degrees):
        gone = rows + [place for place, row, shares in own]
        found.append([place for place in range(len(degrees)) if place not in gone])
        rows = [row for place, row, shares in own]
    return found


# The mixed rows of the strikes.
def strike_basis(ring, frame, vectors, strikes):
    basis = Basis(frame, ring.numbers().prime())
    for place, number, held in strikes:
        shares = [(top, bottom, 0, vectors[row]) for row, top, bottom in fraction_shares(ring, held)]
        basis.add_row(mixed(basis.modulus, shares)[0])
    return basis


def fraction_shares(ring, shares):
    found = []
    for row, number in shares.items():
        fraction = top_and_bottom(ring.numbers(), number)
        found.append((row, fraction[0], fraction[1]))
    return found


# Where many vectors are divided, each row is divided by those behind it once, and not again with each vector.
def cleared(basis):
    found = Basis(basis.frame, basis.modulus)
    for row in range(basis.many_rows() - 1, -1, -1):
        found.add_row(over_one_bottom(Division(found, basis.vector(row)).rest)[0])
    return found
