"""Whole numbers: what is one, and what divides two of them."""


# Python counts its truths among the ints; here they are no numbers.
def is_whole(thing):
    return isinstance(thing, int) and not isinstance(thing, bool)


def divisor(one, other):
    # Signs go first, so that no remainder on the way is below 0.
    great = abs(one)
    small = abs(other)
    while small != 0:
        rest = great % small
        great = small
        small = rest
    return great
