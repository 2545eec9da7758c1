"""Bases that grow row by row, with the ways in which their rows were mixed."""

from relationladder.bases import Division
from relationladder.vectors import mixed
from relationladder.vectors import over_one_bottom
from relationladder.vectors import vector_over


# A basis, and for each of its rows, made to have the lead number 1, the way to it; None where none is asked.
class Growing:
    def __init__(self, basis):
        self.basis = basis
        self.ways = []

    # Told are the new row's number, or None where nothing of the vector is left, and the way to what is left.
    def take(self, vector, way):
        division = Division(self.basis, vector)
        left = self.way_left(way, division.steps)
        if division.rest == []:
            return (None, left)
        row = self.basis.add_row(over_one_bottom(division.rest)[0])
        first = division.rest[0]
        if left is not None:
            left = vector_over(self.basis.modulus, left, first[1], first[2])
        self.ways.append(left)
        return (row, left)

    def way_left(self, way, steps):
        if way is None:
            return None
        shares = [(-top, bottom, shift, self.ways[row]) for row, shift, top, bottom in steps]
        return mixed(self.basis.modulus, [(1, 1, 0, way)] + shares)

    # The row's terms behind the lead are divided too.
    def clear_tail(self, row):
        division = Division(self.basis, (dict(self.basis.tails[row]), self.basis.firsts[row]))
        if division.steps != []:
            lead = (self.basis.leads[row], 1, 1)
            self.basis.set_row(row, over_one_bottom([lead] + division.rest)[0])
            self.ways[row] = self.way_left(self.ways[row], division.steps)

    # Rows of the other basis are relations: whatever of them is taken off a way, it leads to the same row.
    def shorten_way(self, row, relation_basis):
        if self.ways[row] is not None:
            self.ways[row] = over_one_bottom(Division(relation_basis, self.ways[row]).rest)
