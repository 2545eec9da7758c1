"""Tables made whole, level by level."""

from relationladder.bases import Basis
from relationladder.bases import Division
from relationladder.growing import Growing
from relationladder.packing import degree_frame
from relationladder.products import degree
from relationladder.products import divides
from relationladder.products import least_common
from relationladder.products import product_over
from relationladder.rows import row_level
from relationladder.vectors import mixed
from relationladder.vectors import over_one_bottom
from relationladder.vectors import shifted
from relationladder.vectors import unit
from relationladder.vectors import vector_of


# Those products are kept that no other one of them divides, of alike ones one alone.
def with_product(products, new):
    if any([divides(own, new) for own in products]):
        return products
    return [own for own in products if not divides(new, own)] + [new]


# The product with which the one comes to the least common one.
def crossing(one, other):
    return product_over(least_common(one, other), one)


# Vectors, with ways or with None, are taken at rising levels and made a whole basis.
#
# At each level the rows beneath are divided, times those products that bring their leads under one another, then
# the vectors of the level; what is left is a row more, and no row of a lesser level is changed by it. Of two leads
# at one place the upper one is multiplied, and of its products only those are taken that no other one divides: what
# the others lead to, these lead to as well.
class Climb:
    def __init__(self, frame, modulus):
        self.growing = Growing(Basis(frame, modulus))
        self.row_levels = []
        self.crossings = []
        self.reached = None

    # Entrants are tuples (vector, way). Told are, for each entrant, the number of the row that it became, or None;
    # and the ways of all that left nothing: by these ways the entrants mix to nought.
    def climb(self, level, entrants):
        self.reached = level
        start = len(self.row_levels)
        crossed = [self.take(level, vector, way) for vector, way in self.crossed_rows(level)]
        taken = [self.take(level, vector, way) for vector, way in entrants]
        leads = self.growing.basis.leads
        for row in sorted(range(start, len(leads)), key=lambda row: leads[row]):
            self.growing.clear_tail(row)
        spent = [way for row, way in crossed + taken if row is None and way is not None]
        return ([row for row, way in taken], spent)

    def take(self, level, vector, way):
        taken = self.growing.take(vector, way)
        if taken[0] is not None:
            self.row_levels.append(level)
            self.crossings.append([])
            self.cross(taken[0])
        return taken

    def cross(self, row):
        basis = self.growing.basis
        product = basis.frame.product(basis.leads[row])
        for lead, other in basis.standing[basis.frame.place(basis.leads[row])]:
            second = basis.frame.product(basis.leads[other])
            if second < product:
                self.crossings[row] = with_product(self.crossings[row], crossing(product, second))
            if product < second:
                self.crossings[other] = with_product(self.crossings[other], crossing(second, product))

    def crossed_rows(self, level):
        found = []
        for row, own in enumerate(self.row_levels):
            for product in self.crossings[row]:
                if own + degree(product) == level:
                    shift = self.growing.basis.frame.shift(product)
                    way = self.growing.ways[row]
                    way = None if way is None else shifted(way, shift)
                    found.append((shifted(self.growing.basis.vector(row), shift), way))
        return found

    def waiting_levels(self):
        found = []
        for row, own in enumerate(self.row_levels):
            found.extend([own + degree(product) for product in self.crossings[row]])
        return [level for level in found if level > self.reached]

    def climb_below(self, level):
        waiting = [own for own in self.waiting_levels() if own < level]
        while waiting != []:
            self.climb(min(waiting), [])
            waiting = [own for own in self.waiting_levels() if own < level]


# A table's rows made whole in a frame over the columns, up to the level most, or to the end where this is None.
#
# With ways, which need a frame that orders by degrees, the relations are made whole alongside, and the ways are
# shortened by them: left alone, ways grow far beyond the rows that they lead to.
class TableClimb:
    def __init__(self, ring, frame, columns, table, with_ways, most=None):
        self.rows = Climb(frame, ring.numbers().prime())
        self.relations = Climb(degree_frame(ring.letters(), len(table)), ring.numbers().prime())
        # The numbers of those rows among the relations that are no mixtures of the others.
        self.needed = []
        levels = [row_level(columns, row) for row in table]
        vectors = [vector_of(ring, frame, row) for row in table]
        ways = [self.first_way(number, with_ways) for number in range(len(table))]
        level = min(levels, default=None)
        while level is not None and (most is None or level <= most):
            self.rise(level, [(vectors[number], ways[number]) for number, own in enumerate(levels) if own == level])
            level = min([own for own in levels if own > level] + self.rows.waiting_levels(), default=None)

    def first_way(self, number, with_ways):
        if not with_ways:
            return None
        return unit(self.relations.growing.basis.frame, number)

    def rise(self, level, entrants):
        start = len(self.rows.row_levels)
        spent = self.rows.climb(level, entrants)[1]
        self.relations.climb_below(level)
        made = self.relations.climb(level, [(way, None) for way in spent])[0]
        self.needed.extend([row for row in made if row is not None])
        for row in range(start, len(self.rows.row_levels)):
            self.rows.growing.shorten_way(row, self.relations.growing.basis)

    # The way to a mixture of this level.
    def way_to(self, vector, level):
        growing = self.rows.growing
        steps = Division(growing.basis, vector).steps
        shares = [(top, bottom, shift, growing.ways[row]) for row, shift, top, bottom in steps]
        self.relations.climb_below(level + 1)
        way = mixed(growing.basis.modulus, shares)
        return over_one_bottom(Division(self.relations.growing.basis, way).rest)
