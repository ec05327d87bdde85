"""Halving: finds a place in an ordered row without a look at each of its things."""


# The least number from 0 to many of which the question is answered with yes, or many where there is none;
# behind a yes there are only such.
def halved(many, is_past):
    low = 0
    high = many
    while low < high:
        middle = (low + high) // 2
        if is_past(middle):
            high = middle
        else:
            low = middle + 1
    return low
