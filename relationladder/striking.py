"""What is struck out of a ladder's stands, found by the numbers that stand alone in its rungs.

A strike is a tuple (place, row, shares). Rows of the next rung, times the numbers of shares and added, have 1 at the
place: so the place is a mixture of others, and it is struck out of its stand, the row of the next one. Shares are a
dict from rows to numbers.
"""


# For each stand its strikes. They are sought from the end on: a row that is struck out as a place can strike nothing.
def all_strikes(numbers, bases, stand_degrees):
    found = []
    gone = []
    for stand in range(len(bases) - 1, -1, -1):
        rows = [row for row in range(bases[stand].many_rows()) if row not in gone]
        strikes = strikes_of(numbers, [(row, lone_numbers(numbers, bases[stand], row)) for row in rows])
        gone = [place for place, row, shares in strikes]
        found.append(by_falling_degree(strikes, stand_degrees[stand]))
    return list(reversed(found))


# Where places fall so, the mixed row of a strike has nothing at the places of strikes ahead: what stands there beside
# the lone numbers stands at places of lesser degrees.
def by_falling_degree(strikes, degrees):
    return sorted(strikes, key=lambda strike: -degrees[strike[0]])


# A number stands alone in a row where the product there is one: the key is then the offset of the place.
def lone_numbers(numbers, basis, row):
    vector = basis.vector(row)
    found = {}
    for place, key in enumerate(basis.frame.offsets):
        if key in vector[0]:
            found[place] = numbers.of(vector[0][key], vector[1])
    return found


def strikes_of(numbers, rows_and_lone):
    found = []
    taken = []
    for row, lone in rows_and_lone:
        left = lone
        shares = {row: numbers.of(1)}
        for place, other, other_shares in taken:
            if place in left:
                factor = left[place]
                left = less_multiple(numbers, left, factor, other)
                shares = less_multiple(numbers, shares, factor, other_shares)
        if left != {}:
            place = min(left)
            shares = divided_by(numbers, shares, left[place])
            taken.append((place, divided_by(numbers, left, left[place]), shares))
            found.append((place, row, shares))
    return found


def less_multiple(numbers, one, factor, other):
    found = dict(one)
    for place, number in other.items():
        found[place] = numbers.minus(found.get(place, numbers.of(0)), numbers.times(factor, number))
    return dict([(place, number) for place, number in found.items() if number != numbers.of(0)])


def divided_by(numbers, one, divisor):
    return dict([(place, numbers.over(number, divisor)) for place, number in one.items()])


def all_kept(strikes, stand_degrees):
    found = []
    rows = []
    for own, degrees in zip(strikes, stand_degrees):
        gone = rows + [place for place, row, shares in own]
        found.append([place for place in range(len(degrees)) if place not in gone])
        rows = [row for place, row, shares in own]
    return found
