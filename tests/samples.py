"""Numbers and things that several tests ask with."""

import decimal
import fractions

SIXTY = int("7" * 30 + "1" * 30)
SIXTY_TWO = int("9" * 60)
THREE_HUNDRED = int("1234567890" * 30)
THREE_HUNDRED_TWO = int("9" * 300)

WHOLES = [
    -SIXTY_TWO, -SIXTY, -360, -97, -12, -3, -2, -1,
    0, 1, 2, 3, 4, 6, 9, 12, 35, 97, 360, 1001, SIXTY, SIXTY_TWO,
]

NOT_WHOLE = [
    True, False, None, "", "1", "one", [], [1], [1, 2], (), (1,), (1, 2), {}, {1: 1},
    1.0, 0.0, 1j, b"1", set(), frozenset([1]), object(), int, len, range(3),
    fractions.Fraction(1), decimal.Decimal(1),
]


def fraction_pairs():
    """A fraction as the program tells it, beside the one of Python's own library."""
    tops = [-SIXTY_TWO, -SIXTY, -35, -7, -6, -1, 0, 1, 2, 5, 12, SIXTY, SIXTY_TWO]
    bottoms = [1, 2, 3, 6, 10, 35, SIXTY + 2]
    found = {fractions.Fraction(top, bottom) for top in tops for bottom in bottoms}
    return [((one.numerator, one.denominator), one) for one in sorted(found)]
