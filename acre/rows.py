"""Rows of things: where in one a thing stands."""


# The least number from 0 to many of which the question is answered with yes, or many where there is none. Behind a
# yes there are only such, so that few are asked for.
def halved(many, is_past):
    low = 0
    high = many
    while low < high:
        middle = (low + high) // 2
        if is_past(middle):
            high = middle
        else:
            low = middle + 1
    return low


# For each of unlike things its number in the row.
def numbers_of(things):
    numbers = {}
    for number, thing in enumerate(things):
        numbers[thing] = number
    return numbers
