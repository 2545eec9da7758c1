"""Terms (place, product) of rows, their order, and the lead of a row."""

from relationladder.errors import NoRow


# Of two terms of one level the upper one is greater here.
def term_height(place, product):
    return (product, -place)


# All terms of a row have one level, and an entry's first part is its uppermost: the columns' degrees decide nothing.
def lead(columns, row):
    firsts = [(place, entry[0][0], entry[0][1]) for place, entry in enumerate(row) if entry != []]
    if firsts == []:
        raise NoRow("a row of noughts alone has no lead")
    return max(firsts, key=lambda first: term_height(first[0], first[1]))
