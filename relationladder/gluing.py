"""A table glued to a thin tower with the same mixtures."""

from relationladder.bases import Division
from relationladder.packing import degree_frame
from relationladder.packing import raised_frame
from relationladder.striking import by_falling_degree
from relationladder.striking import cleared
from relationladder.striking import lone_numbers
from relationladder.striking import strike_basis
from relationladder.striking import strikes_of
from relationladder.vectors import mixed
from relationladder.vectors import moved
from relationladder.vectors import over_one_bottom
from relationladder.vectors import reframed
from relationladder.vectors import unit


# The table's rows are told as mixtures of the tower's kept rows; by rows of the table in which a number stands alone,
# the kept rows are struck out, and told as mixtures of these rows of the table.
class Glue:
    def __init__(self, ring, first_basis, thin, degrees, vectors):
        self.thin_frame = thin.frames[1]
        self.tower_size = self.thin_frame.many_places()
        self.table_frame = degree_frame(ring.letters(), len(vectors))
        self.ways = thin.all_there(1, [self.over_tower(first_basis, vector) for vector in vectors])
        lone = [(row, lone_numbers(ring.numbers(), self.thin_frame, way)) for row, way in enumerate(self.ways)]
        strikes = by_falling_degree(strikes_of(ring.numbers(), lone), degrees)
        self.frame = raised_frame(ring.letters(), self.tower_size + len(vectors), [strike[0] for strike in strikes])
        glued = [self.glued(first_basis.modulus, row) for row in range(len(vectors))]
        self.basis = cleared(strike_basis(ring, self.frame, glued, strikes))
        taken = [row for place, row, shares in strikes]
        self.left = [row for row in range(len(vectors)) if row not in taken]

    def over_tower(self, first_basis, vector):
        offsets = self.thin_frame.offsets
        steps = Division(first_basis, vector).steps
        return over_one_bottom([(offsets[row] + shift, top, bottom) for row, shift, top, bottom in steps])

    # The way to a row, less the row: over the tower's rows, and behind them the table's.
    def glued(self, modulus, row):
        way = reframed(self.ways[row], self.thin_frame, self.frame)
        return mixed(modulus, [(1, 1, 0, way), (-1, 1, 0, unit(self.frame, self.tower_size + row))])

    # A vector over the kept rows as one over the table's rows.
    def over_table(self, vector):
        rest = Division(self.basis, reframed(vector, self.thin_frame, self.frame)).rest
        rows = dict([(self.tower_size + row, row) for row in range(self.table_frame.many_places())])
        return moved(over_one_bottom(rest), self.frame, self.table_frame, rows)

    # The relation by which a row of the table that is left comes of those that were taken.
    def relation_of(self, row):
        shares = [(1, 1, 0, unit(self.table_frame, row)), (-1, 1, 0, self.over_table(self.ways[row]))]
        return mixed(self.basis.modulus, shares)
