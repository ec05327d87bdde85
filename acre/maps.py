"""Maps: lands by names, asked for a point by halving."""

from acre.errors import NoName
from acre.points import across, before, turn
from acre.ratios import under
from acre.rows import halved
from acre.slabs import slabs


class Map:
    def __init__(self, pairs):
        check_names([name for name, land in pairs])
        told = slabs(pairs)
        self.places = told[0]
        self.layers = told[1]
        self.uprights = told[2]

    def found(self, P):
        x = across(P)
        number = halved(len(self.places), lambda k: not under(self.places[k], x))
        if number < len(self.places) and self.places[number] == x:
            return self.found_at(number, P)
        if number == 0 or number == len(self.places):
            return ([], [])
        return found_between(self.layers[number - 1], P)

    # At a place: what has P on it are uprights there, and what ends and begins there to the left and to the right.
    def found_at(self, number, P):
        on = own_names(span(self.uprights[number], P))
        if number > 0:
            layer = self.layers[number - 1]
            on.extend(own_names(layer[first_reaching(layer, 1, P):first_past(layer, 1, P)]))
        if number == len(self.layers):
            # Nothing lies to the right of the last place, so P is in no land there.
            return ([], each_once(on))
        layer = self.layers[number]
        past = first_past(layer, 0, P)
        on.extend(own_names(layer[first_reaching(layer, 0, P):past]))
        return (without(over_names(layer, past), on), each_once(on))


def check_names(names):
    seen = {}
    for name in names:
        if not isinstance(name, str):
            raise NoName("a name is a text")
        if name in seen:
            raise NoName("each name stands once")
        seen[name] = True


# Between two places: the first part that is not below P has P on it, or is above.
def found_between(layer, P):
    place = halved(len(layer), lambda k: turn(layer[k][0][0], layer[k][0][1], P) <= 0)
    if place < len(layer) and turn(layer[place][0][0], layer[place][0][1], P) == 0:
        own = layer[place][2]
        return (without(layer[place][1], own), each_once(own))
    return (over_names(layer, place), [])


# The lands right above the part below a place in a layer; below all parts there are none.
def over_names(layer, place):
    return list(layer[place - 1][1]) if place > 0 else []


# Of rows whose stretches have their ends of one side (0 or 1) upon one another: the first that is not below P ..
def first_reaching(rows, side, P):
    return halved(len(rows), lambda k: not before(rows[k][0][side], P))


# .. and the first that is above it.
def first_past(rows, side, P):
    return halved(len(rows), lambda k: before(P, rows[k][0][side]))


# The uprights that have P on them: those that end not below it and begin not above it.
def span(rows, P):
    return rows[first_reaching(rows, 1, P):first_past(rows, 0, P)]


# The names of those who have a fence there stand last in each row.
def own_names(rows):
    names = []
    for row in rows:
        names.extend(row[-1])
    return names


def each_once(names):
    return sorted(set(names))


def without(names, others):
    return [name for name in names if name not in others]
