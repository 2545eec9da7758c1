"""Tables to ask about, and another reckoning than the program's: rows as dicts from terms (place, product) to numbers."""

import copy
import fractions

from relationladder.numbers import Fractions, Rests
from relationladder.products import all_products
from relationladder.rows import is_row, is_table
from relationladder.sums import Ring
from tests.helpers import as_sum, value

# Ranks of fractions are taken by what is left by this prime; the tables are drawn, not made against it.
RANK_PRIME = 2 ** 61 - 1

COLUMNS = [[0], [-20], [3], [0, 0], [1, -1], [-20, 20], [0, 1], [2, 0, -1], [0, 0, 0], [-5, -4, -5]]
KINDS = [Fractions(), Rests(2), Rests(3), Rests(9973)]


def noughts(columns):
    return [[] for _ in columns]


def some_number(chance, ring, figures):
    """A number that is not nought; where figures are asked, a fraction with so many above and below."""
    prime = ring.numbers().prime()
    if prime:
        return chance.randint(1, prime - 1)
    if figures:
        low, high = 10 ** (figures - 1), 10 ** figures - 1
        return fractions.Fraction(chance.choice([-1, 1]) * chance.randint(low, high), chance.randint(low, high))
    return fractions.Fraction(chance.choice([1, 1, -1, 2, -3, 5]), chance.choice([1, 1, 1, 2, 3]))


def some_sum(chance, ring, own, parts, figures=0):
    if own < 0:
        return []
    products = all_products(ring.letters(), own)
    drawn = chance.sample(products, min(len(products), chance.randint(1, parts)))
    return as_sum(ring, {product: some_number(chance, ring, figures) for product in drawn})


def some_row(chance, ring, columns, row_level, parts=2, figures=0, share=0.75, most=4):
    """A row of this level with products of degrees of at most four, perhaps of noughts alone."""
    fits = [0 <= row_level - own <= most and chance.random() < share for own in columns]
    return [some_sum(chance, ring, row_level - own, parts, figures) if fit else [] for own, fit in zip(columns, fits)]


def some_table(chance, ring, columns, many, degrees=(1, 2), parts=2, figures=0):
    table = []
    while len(table) < many:
        row = some_row(chance, ring, columns, chance.choice(columns) + chance.choice(degrees), parts, figures)
        if any(row):
            table.append(row)
    return table


def some_tables(chance, repeats=1, kinds=KINDS, letters=(1, 2, 3, 4), columns_drawn=3):
    """Tuples (ring, columns, table), with none to five rows; some rows come twice or are multiples of others."""
    for _ in range(repeats):
        for kind in kinds:
            for many_letters in letters:
                ring = Ring(kind, many_letters)
                for columns in chance.sample(COLUMNS, columns_drawn):
                    # Of four letters and three columns, rows of higher degrees are soon beyond any wait.
                    higher = [(1, 2, 3), (3, 4)] if many_letters + len(columns) < 6 else []
                    degrees = chance.choice([(0, 1), (1,), (1, 2), (2,)] + higher)
                    table = some_table(chance, ring, columns, chance.randint(0, 5), degrees)
                    yield ring, list(columns), with_repeats(chance, ring, table)


def with_repeats(chance, ring, table):
    if len(table) > 1 and chance.random() < 0.3:
        table[-1] = copy.deepcopy(table[0])
    if len(table) > 2 and chance.random() < 0.3:
        factor = {chance.choice(all_products(ring.letters(), chance.randint(0, 1))): some_number(chance, ring, 0)}
        table[1] = as_row(ring, len(table[0]), dict_multiple(as_terms(ring, table[0]), factor))
    return table


def as_terms(ring, row):
    return {(place, product): value(ring, number) for place, entry in enumerate(row) for product, number in entry}


def as_row(ring, many, terms):
    return [as_sum(ring, {product: number for (own, product), number in terms.items() if own == place})
            for place in range(many)]


def dict_multiple(terms, factor):
    """The terms times a dict from products to numbers."""
    found = {}
    for (place, product), number in terms.items():
        for second, share in factor.items():
            term = (place, tuple(a + b for a, b in zip(product, second)))
            found[term] = found.get(term, 0) + number * share
    return found


def mixed(ring, many, rows, multiples):
    """The mixture, reckoned with dicts."""
    assert len(rows) == len(multiples), (rows, multiples)
    found = {}
    for row, multiple in zip(rows, multiples):
        factor = {product: value(ring, number) for product, number in multiple}
        for term, number in dict_multiple(as_terms(ring, row), factor).items():
            found[term] = found.get(term, 0) + number
    return as_row(ring, many, found)


def level_of(columns, row):
    """The one level of all terms, or None; another road than the program's."""
    levels = {columns[place] + sum(product) for place, entry in enumerate(row) for product, number in entry}
    assert len(levels) <= 1, (columns, row)
    return levels.pop() if levels else None


def levels_of(columns, table):
    return [level_of(columns, row) for row in table]


def check_row(case, ring, columns, row, row_level):
    """A row over the columns, of this level or of noughts alone."""
    case.assertIs(is_row(ring, columns, row), True, row)
    case.assertIn(level_of(columns, row), (row_level, None))


def check_table(case, ring, columns, table):
    case.assertIs(is_table(ring, columns, table), True, table)


def own_lead(row):
    """The lead as (place, product, number), by going through all terms; None of noughts alone."""
    best = None
    for place, entry in enumerate(row):
        for product, number in entry:
            if best is None or product > best[1]:
                best = (place, product, number)
    return best


def is_under(term, lead):
    return term[0] == lead[0] and all(a <= b for a, b in zip(lead[1], term[1]))


def terms_of_level(ring, columns, level):
    found = []
    for place, own in enumerate(columns):
        if own <= level:
            found += [(place, product) for product in all_products(ring.letters(), level - own)]
    return found


def multiples_at(ring, columns, table, level):
    """Each row times each product with which it has this level, as terms."""
    found = []
    for row in table:
        own = level_of(columns, row)
        if own <= level:
            terms = as_terms(ring, row)
            found += [dict_multiple(terms, {product: 1}) for product in all_products(ring.letters(), level - own)]
    return found


def rank(ring, vectors):
    prime = ring.numbers().prime() or RANK_PRIME
    pivots = {}
    for vector in vectors:
        left = {}
        for term, number in vector.items():
            number = fractions.Fraction(number)
            left[term] = number.numerator * pow(number.denominator, -1, prime) % prime
        left = {term: number for term, number in left.items() if number}
        while left and max(left) in pivots:
            top = max(left)
            factor = left[top]
            for term, number in pivots[top].items():
                left[term] = (left.get(term, 0) - factor * number) % prime
                if not left[term]:
                    del left[term]
        if left:
            inverse = pow(left[max(left)], -1, prime)
            pivots[max(left)] = {term: number * inverse % prime for term, number in left.items()}
    return len(pivots)


def rank_at(ring, columns, table, level):
    return rank(ring, multiples_at(ring, columns, table, level))


def check_nothing_left_out(case, ring, columns, table, relations, above=2, most_terms=250):
    """At each level, as many relations are mixtures of the told ones as there are, by ranks."""
    levels = levels_of(columns, table)
    goals = sorted(set(levels_of(levels, relations)))
    goals += range(max(levels), max(levels + goals) + above + 1)
    for level in sorted(set(goals)):
        many = len(terms_of_level(ring, levels, level))
        if many <= most_terms:
            there_are = many - rank_at(ring, columns, table, level)
            case.assertEqual(rank_at(ring, levels, relations, level), there_are, (columns, table, level))


def some_mixture(chance, ring, columns, table, more=1):
    """Multiples of one level and their mixture."""
    levels = levels_of(columns, table)
    goal = max(levels) + chance.randint(0, more)
    multiples = [some_sum(chance, ring, goal - own, 2) if chance.random() < 0.6 else [] for own in levels]
    return multiples, mixed(ring, len(columns), table, multiples)


def same_mixtures(chance, ring, columns, table):
    """The table changed in ways that leave its mixtures as they are."""
    changed = copy.deepcopy(table)
    chance.shuffle(changed)
    for place in range(len(changed)):
        factor = some_number(chance, ring, 0)
        changed[place] = as_row(ring, len(columns), dict_multiple(as_terms(ring, changed[place]), {one(ring): factor}))
    levels = levels_of(columns, changed)
    for upper in range(len(changed)):
        for lower in range(len(changed)):
            if upper != lower and levels[lower] <= levels[upper] and chance.random() < 0.5:
                added = add_multiple(chance, ring, columns, changed[upper], changed[lower])
                # With the lower row once more in the upper one, both still mix to what they did.
                if any(added):
                    changed[upper] = added
    if changed and len(changed) < 5:
        multiples, more = some_mixture(chance, ring, columns, changed)
        changed += [more] if any(more) else []
    return changed


def add_multiple(chance, ring, columns, row, other):
    own = level_of(columns, row) - level_of(columns, other)
    factor = [((0,) * ring.letters(), ring.numbers().of(1))]
    return mixed(ring, len(columns), [row, other], [factor, some_sum(chance, ring, own, 1)])


def one(ring):
    return (0,) * ring.letters()
