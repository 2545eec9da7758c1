"""Products packed into whole numbers, and terms into keys: multiplying is adding, and what stands higher is greater."""

# Nothing that can be waited for comes near these widths. The upper bit of a letter stays free: where a product is
# taken off another one, it tells whether the letter stood there often enough.
LETTER_BITS = 20
LETTER_MASK = 1048575
FREE_BIT = 524288
PLACE_BITS = 20
PLACE_MASK = 1048575


def packed(product):
    whole = 0
    for often in product:
        whole = (whole << LETTER_BITS) + often
    return whole << PLACE_BITS


def unpacked(letters, whole):
    oftens = [(whole >> (PLACE_BITS + LETTER_BITS * behind)) & LETTER_MASK for behind in range(letters)]
    return tuple(reversed(oftens))


def same_in_all(letters, often):
    return packed([often for letter in range(letters)])


# The terms over some places, each with a key: the shift of its product, and the place's own offset.
#
# So terms are ordered by their products times the tops of their places, and of alike ones by the places' ranks, the
# lesser above; no two places have the same rank. Products are ordered as tuples are compared.
class Frame:
    def __init__(self, letters, tops, ranks):
        self.width = letters
        self.mask = same_in_all(letters, LETTER_MASK)
        self.offsets = [top + PLACE_MASK - rank for top, rank in zip(tops, ranks)]
        self.places = dict([(PLACE_MASK - rank, place) for place, rank in enumerate(ranks)])

    def shift(self, product):
        return packed(product)

    # The product of a shift, packed plainly.
    def plain(self, shift):
        return shift

    def many_places(self):
        return len(self.offsets)

    def key(self, place, product):
        return self.shift(product) + self.offsets[place]

    def place(self, key):
        return self.places[key & PLACE_MASK]

    def packed_product(self, key):
        return self.plain(key - self.offsets[self.place(key)])

    def product(self, key):
        return unpacked(self.width, self.packed_product(key))

    # The product times the top of its place, as a shift.
    def top_product(self, key):
        return key - (key & PLACE_MASK)

    def rank(self, key):
        return PLACE_MASK - (key & PLACE_MASK)


# Products are ordered by their degrees, and of one degree by how often all letters but the first stand there, then all
# but the first two, and so on. Where the order is free this one is taken: its whole tables are far smaller.
class DegreeFrame(Frame):
    def shift(self, product):
        return packed([sum(product[start:]) for start in range(len(product))])

    def plain(self, shift):
        return shift - ((shift << LETTER_BITS) & self.mask)


# The order of terms over columns: by products as tuples are compared, of one product the lesser place above.
def column_frame(letters, many):
    return Frame(letters, [0 for place in range(many)], list(range(many)))


def degree_frame(letters, many):
    return raised_frame(letters, many, [])


# The places of the list stand above all others and fall in its order, whatever the products.
def raised_frame(letters, many, raised):
    heights = [0 for place in range(many)]
    for number, place in enumerate(raised):
        heights[place] = len(raised) - number
    one = tuple([0 for letter in range(letters)])
    return DegreeFrame(letters, [packed((height,) + one) for height in heights], list(range(many)))
