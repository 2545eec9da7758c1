"""Products packed into whole numbers, and terms into keys: multiplying is adding, and what stands higher is greater."""

# Nothing that can be waited for comes near these widths. The upper bit of a letter stays free: where a product is
# taken off another one, it tells whether the letter stood there often enough.
LETTER_BITS = 20
LETTER_MASK = 1048575
FREE_BIT = 524288
PLACE_BITS = 20
PLACE_MASK = 1048575


def packed(product):
    whole = 0
    for often in product:
        whole = (whole << LETTER_BITS) + often
    return whole << PLACE_BITS


def unpacked(letters, whole):
    oftens = [(whole >> (PLACE_BITS + LETTER_BITS * behind)) & LETTER_MASK for behind in range(letters)]
    return tuple(reversed(oftens))


def free_bits(letters):
    return packed([FREE_BIT for letter in range(letters)])


# The terms over some places, each with a key: its packed product, and the place's own offset.
#
# So terms are ordered by their products times the tops of their places, and of alike ones by the places' ranks,
# the lesser above; no two places have the same rank.
class Frame:
    def __init__(self, letters, tops, ranks):
        self.width = letters
        self.offsets = [top + PLACE_MASK - rank for top, rank in zip(tops, ranks)]
        self.places = dict([(PLACE_MASK - rank, place) for place, rank in enumerate(ranks)])

    def many_places(self):
        return len(self.offsets)

    def key(self, place, product):
        return packed(product) + self.offsets[place]

    def place(self, key):
        return self.places[key & PLACE_MASK]

    def packed_product(self, key):
        return key - self.offsets[self.place(key)]

    def product(self, key):
        return unpacked(self.width, self.packed_product(key))

    # The product times the top of its place.
    def top_product(self, key):
        return key - (key & PLACE_MASK)

    def rank(self, key):
        return PLACE_MASK - (key & PLACE_MASK)


# The order of terms over columns: by products as tuples are compared, of one product the lesser place above.
def column_frame(letters, many):
    return Frame(letters, [0 for place in range(many)], list(range(many)))


# Another order of terms over as many places: those of the list stand above all others and fall in its order,
# whatever the products.
def raised_frame(letters, many, raised):
    heights = [0 for place in range(many)]
    for number, place in enumerate(raised):
        heights[place] = len(raised) - number
    one = tuple([0 for letter in range(letters)])
    return Frame(letters, [packed((height,) + one) for height in heights], list(range(many)))
