"""Maps carried up ladders, and maps told as steps aside."""

from relationladder.errors import NoMap
from relationladder.numbers import top_and_bottom
from relationladder.rests import rest_by
from relationladder.rests import table_basis
from relationladder.rows import mixture
from relationladder.rows import row_minus


def carried(ladder, other, first):
    lifting = Lifting(other)
    found = [[[list(entry) for entry in row] for row in first]]
    for stand, rung in enumerate(ladder.rungs(), start=1):
        images = lifting.mixtures(stand - 1, found[-1], rung[1])
        found.append([lifting.lifted_row(stand, image) for image in images])
    return found


# What a map and the steps aside beneath differ by mixes the other ladder's rows to nought: so it is lifted in turn.
def aside(ladder, other, maps):
    lifting = Lifting(other)
    found = [[lifting.lifted_row(1, row) for row in maps[0]]]
    for stand, rung in enumerate(ladder.rungs(), start=1):
        steps = lifting.mixtures(stand, found[-1], rung[1])
        left = [row_minus(ladder.ring(), row, step) for row, step in zip(maps[stand], steps)]
        found.append([lifting.lifted_row(stand + 1, row) for row in left])
    return found


# Rows over the stands of a ladder told as mixtures of its rungs' rows.
class Lifting:
    def __init__(self, ladder):
        self.ladder = ladder
        self.own_rungs = ladder.rungs()
        self.first_table = self.own_rungs[0][1] if self.own_rungs != [] else []
        self.first_basis = table_basis(ladder.ring(), ladder.columns(), self.first_table)

    # Rows over a stand, mixed.
    def mixtures(self, stand, rows, all_multiples):
        many = self.many_places(stand)
        return [mixture(self.ladder.ring(), many, rows, multiples) for multiples in all_multiples]

    def many_places(self, stand):
        if stand == 0:
            return len(self.ladder.columns())
        if stand > self.ladder.many():
            return 0
        return len(self.own_rungs[stand - 1][1])

    # A row over the stand beneath. From the second rung on it mixes the rows beneath to nought; of the first one's it
    # may be no mixture.
    def lifted_row(self, stand, row):
        if stand == 1:
            return self.lifted_first(row)
        if stand > self.ladder.many():
            return []
        return self.ladder.told(stand - 1, row)

    # There are two ways to multiples, and either may come to far longer ones than the other.
    def lifted_first(self, row):
        ring = self.ladder.ring()
        divided = rest_by(ring, self.ladder.columns(), self.first_table, self.first_basis, row)
        if any([entry != [] for entry in divided[1]]):
            raise NoMap("a row is no mixture of the other ladder's first rung's")
        if self.first_table == []:
            return []
        ways = [divided[0], self.ladder.glued_multiples(row)]
        return min(ways, key=lambda multiples: bits_of(ring.numbers(), multiples))


# How much there is to write.
def bits_of(numbers, row):
    found = 0
    for entry in row:
        for product, number in entry:
            fraction = top_and_bottom(numbers, number)
            found = found + fraction[0].bit_length() + fraction[1].bit_length()
    return found
