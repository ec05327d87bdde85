"""The sweep: where many stretches begin, end and meet, and the pieces into which they are cut there."""

from acre.points import by_points, in_order, order_keys
from acre.stretches import ends_of, meet


def stops(stretches):
    lying = lying_at(stretches)
    return [stop_at(P, sorted(list(lying[P])), stretches) for P in in_order(list(lying))]


def stop_at(P, numbers, stretches):
    begins = [number for number in numbers if stretches[number][0] == P]
    through = [number for number in numbers if P not in stretches[number]]
    ends = [number for number in numbers if stretches[number][1] == P]
    return (P, begins, through, ends)


# For each stop a dict of the numbers of the stretches on which it lies. Pair by pair finds all of them: a stop
# within a stretch is an end of another one, or it is the one spot of two others, of which one at least does
# not go along the stretch.
def lying_at(stretches):
    lying = {}
    for number, S in enumerate(stretches):
        for P in S:
            note(lying, P, number)
    for one, other in near_pairs(stretches):
        for P in shared_ends(meet(stretches[one], stretches[other])):
            note(lying, P, one)
            note(lying, P, other)
    return lying


def note(lying, P, number):
    if P not in lying:
        lying[P] = {}
    lying[P][number] = True


# The ends of what two stretches have in common; the ends of a part are ends of theirs, so stops too.
def shared_ends(common):
    if common is None:
        return ()
    if common[0] == "spot":
        return (common[1],)
    return common[1]


# Pairs of numbers of stretches; those that are left out lie too far apart to meet.
def near_pairs(stretches):
    keys = order_keys(ends_of(stretches))
    lows = [min(keys[S[0]][1], keys[S[1]][1]) for S in stretches]
    highs = [max(keys[S[0]][1], keys[S[1]][1]) for S in stretches]
    lasts = [keys[S[1]] for S in stretches]
    pairs = []
    standing = []
    for number in sorted(range(len(stretches)), key=lambda k: keys[stretches[k][0]]):
        first = keys[stretches[number][0]]
        low = lows[number]
        high = highs[number]
        standing = [other for other in standing if lasts[other] >= first]
        near = [other for other in standing if lows[other] <= high]
        pairs.extend([(number, other) for other in near if highs[other] >= low])
        standing.append(number)
    return pairs


def pieces(stretches):
    owners = {}
    reached = {}
    for P, begins, through, ends in stops(stretches):
        for number in sorted(through + ends):
            owners.setdefault((reached[number], P), []).append(number)
        for number in begins + through:
            reached[number] = P
    return [(S, owners[S]) for S in by_points(list(owners))]
