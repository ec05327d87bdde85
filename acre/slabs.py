"""Slabs: the plane cut upright at each place where a fence of some lands ends or meets another one."""

from acre.counts import is_upright
from acre.points import across, by_points, in_order, line_of, met
from acre.rows import numbers_of
from acre.stretches import ends_of, stretches_of
from acre.sweep import pieces


# Within the module lands are told by their numbers, and by their names only in what is given.
def slabs(pairs):
    fences = []
    numbers = []
    for number, pair in enumerate(pairs):
        fences.extend(pair[1])
        numbers.extend([number for fence in pair[1]])
    names = [pair[0] for pair in pairs]
    cut = [(S, [numbers[k] for k in owners]) for S, owners in pieces(stretches_of(fences))]
    places = places_of([S for S, own in cut])
    return (places, layers_of(cut, places, names), uprights_of(cut, places, names))


# The ends of the pieces are just the stops of all fences.
def places_of(parts):
    places = []
    for P in in_order(ends_of(parts)):
        place = across(P)
        if places == [] or places[-1] != place:
            places.append(place)
    return places


def layers_of(cut, places, names):
    numbers = numbers_of(places)
    layers = [{} for place in places[1:]]
    for S, own in cut:
        # An upright piece begins and ends at one place, so it gives no parts.
        first = numbers[across(S[0])]
        last = numbers[across(S[1])]
        marks = marks_along(S, places[first + 1:last])
        for k in range(first, last):
            layers[k][(marks[k - first], marks[k - first + 1])] = own
    return [layer_told(layer, names) for layer in layers]


# The points of a stretch at its ends and at the places between.
def marks_along(S, places):
    line = line_of(S[0], S[1])
    between = [met(line, (bottom, 0, -top)) for top, bottom in places]
    return [S[0]] + between + [S[1]]


# A dict from the parts to the lands that have a fence there. From above to below, each fence is a change from land to
# none or from none to land.
def layer_told(layer, names):
    told = []
    over = []
    for S in reversed(by_points(list(layer))):
        own = layer[S]
        told.append((S, named(over, names), named(own, names)))
        over = [k for k in over if k not in own] + [k for k in own if k not in over]
    return list(reversed(told))


def named(numbers, names):
    return sorted([names[k] for k in numbers])


def uprights_of(cut, places, names):
    numbers = numbers_of(places)
    told = [[] for place in places]
    for S, own in cut:
        if is_upright(S):
            told[numbers[across(S[0])]].append((S, named(own, names)))
    return told
