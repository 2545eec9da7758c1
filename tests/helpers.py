"""What several test files share: odd things, and the check of a refusal."""

from relationladder import errors

REFUSALS = [
    errors.NoNumber, errors.NoRing, errors.NoPart, errors.NoRow, errors.NoRung, errors.NoRelation,
    errors.NoMap, errors.NoTurn, errors.NoText, errors.NoName, errors.TooMany,
]

GREAT = 10 ** 30 + 57

# Things that are neither numbers nor products nor sums nor rows, whatever the kind and the letters.
ODD_THINGS = [
    None, True, False, -1, -GREAT, "", "x", "1", "(1, 1)", "[]", "0",
    (), (None,), (None, None), ("1", "1"), ((), ()), ([1], [1]), ((1, 1), (1, 1)),
    (True,), (False,), (True, True), (True, 1), (1, True), (False, 1), (1, False), (-1, -1), (1, -1),
    (0, 0, True), (1, 2, 3, 4, 5), (1, 1, None), (0, "0"), (1, [1]), ((0, 1), 1),
    [None], [True], [0], [1, 1], [0, 1], ["x"], [()], [[[]]], [[[[]]]], [[[[[[]]]]]],
    [[[[[True]]]]], ((((((1,),),),),),), [([((None,), "x")], ())], ([], []), (1, ([], None)),
]


def check_refused(case, refusal, ask):
    """The refusal is the told one, a LadderError and a ValueError, and none of the other ones."""
    with case.assertRaises(errors.LadderError) as caught:
        ask()
    case.assertIsInstance(caught.exception, ValueError)
    for other in REFUSALS:
        case.assertEqual(isinstance(caught.exception, other), other is refusal, other.__name__)
