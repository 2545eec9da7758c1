"""What several test files share: odd things, sums reckoned in another way, and checks of refusals and told lists."""

import copy
import fractions

from relationladder import errors
from relationladder.numbers import Fractions, Rests
from relationladder.products import all_products
from relationladder.sums import Ring

REFUSALS = [
    errors.NoNumber, errors.NoRing, errors.NoPart, errors.NoRow, errors.NoRung, errors.NoRelation,
    errors.NoMap, errors.NoTurn, errors.NoText, errors.NoName, errors.TooMany,
]

GREAT = 10 ** 30 + 57

# Things that are neither numbers nor products nor sums nor rows, whatever the kind and the letters.
ODD_THINGS = [
    None, True, False, -1, -GREAT, "", "x", "1", "(1, 1)", "[]", "0",
    (), (None,), (None, None), ("1", "1"), ((), ()), ([1], [1]), ((1, 1), (2, 2)),
    (True,), (False,), (True, True), (True, 1), (1, True), (False, 1), (1, False), (-1, -1), (1, -1),
    (0, 0, True), (1, 2, 3, 4, 5), (1, 1, None), (0, "0"), (1, [1]), ((0, 1), -1),
    [None], [True], [0], [1, 1], [0, 1], ["x"], [()], [[[]]], [[[[]]]], [[[[[[]]]]]], [[[[[True]]]]],
    ((((((1,),),),),),), [([((None,), "x")], ())], ([], []), (1, ([], None)),
]

KINDS = [Fractions(), Rests(2), Rests(3), Rests(9973)]
RINGS = [Ring(kind, letters) for kind in KINDS for letters in (1, 2, 3, 4)]


def check_refused(case, refusal, ask):
    """The refusal is the told one, a LadderError and a ValueError, and none of the other ones."""
    with case.assertRaises(errors.LadderError) as caught:
        ask()
    case.assertIsInstance(caught.exception, ValueError)
    for other in REFUSALS:
        case.assertEqual(isinstance(caught.exception, other), other is refusal, other.__name__)


def spoil(thing):
    """Changes every list within the thing, the inner ones first."""
    if isinstance(thing, (list, tuple)):
        for inner in thing:
            spoil(inner)
    if isinstance(thing, list):
        thing.reverse()
        thing.append("changed")


def lists_within(thing):
    if not isinstance(thing, (list, tuple)):
        return []
    inner = [found for part in thing for found in lists_within(part)]
    return inner + [thing] if isinstance(thing, list) else inner


def check_own(case, ask, *handed):
    """What is handed in stays, what is told is the asker's own, and neither hangs on what is done to the other."""
    handed = copy.deepcopy(handed)
    before = copy.deepcopy(handed)
    told = ask(*handed)
    kept = copy.deepcopy(told)
    case.assertEqual(handed, before)
    case.assertEqual(len({id(found) for found in lists_within(told)}), len(lists_within(told)))
    spoil(told)
    case.assertEqual(handed, before)
    again = ask(*handed)
    case.assertEqual(again, kept)
    spoil(handed)
    case.assertEqual(again, kept)
    case.assertEqual(ask(*before), kept)


def value(ring, number):
    return fractions.Fraction(*number) if ring.numbers().prime() == 0 else number


def as_number(ring, found):
    prime = ring.numbers().prime()
    return found % prime if prime else (found.numerator, found.denominator)


def as_dict(ring, one):
    return {product: value(ring, number) for product, number in one}


def as_sum(ring, found):
    """The sum with these numbers for products; another road than the program's."""
    parts = [(product, as_number(ring, fractions.Fraction(whole) if ring.numbers().prime() == 0 else whole))
             for product, whole in found.items()]
    parts = [part for part in parts if part[1] not in (0, (0, 1))]
    return sorted(parts, key=lambda part: (-sum(part[0]), [-often for often in part[0]]))


def dict_times(one, other):
    found = {}
    for first, number in one.items():
        for second, factor in other.items():
            product = tuple(a + b for a, b in zip(first, second))
            found[product] = found.get(product, 0) + number * factor
    return found


def dict_plus(one, other, sign=1):
    return {product: one.get(product, 0) + sign * other.get(product, 0) for product in list(one) + list(other)}


def random_number(chance, ring):
    top = chance.choice([0, 1, -1, 2, -3, 5, 7, 30, GREAT, -GREAT, chance.randint(-50, 50)])
    if ring.numbers().prime():
        return top % ring.numbers().prime()
    return as_number(ring, fractions.Fraction(top, chance.choice([1, 1, 2, 3, 6, GREAT + 1])))


def random_sum(chance, ring, degrees, most=5):
    """A sum with parts of these degrees, nought now and then."""
    found = {}
    for _ in range(chance.randint(0, most)):
        product = chance.choice(all_products(ring.letters(), chance.choice(degrees)))
        found[product] = value(ring, random_number(chance, ring))
    return as_sum(ring, found)


def random_row(chance, ring, columns, row_level):
    """A row of this level, or of noughts alone."""
    return [random_sum(chance, ring, [row_level - own]) if row_level >= own else [] for own in columns]
