"""The desk: keeps lands by names, is told rows and answers them."""

from acre.errors import NoName, NoRow
from acre.hulls import hull
from acre.joins import common, either, join, less
from acre.lands import area, land_of, where
from acre.points import turn
from acre.rings import rings_of
from acre.texts import read, read_point, show_fraction, shown
from acre.triangles import corners_of, triangles

# How many words a row has, by its first one; TEXT, which may hold blanks, counts as one.
WORD_COUNTS = {
    "land": 3, "join": 4, "common": 4, "less": 4, "either": 4, "hull": 3, "drop": 2, "area": 2, "show": 2, "where": 3,
    "same": 3, "rings": 2, "triangles": 2, "find": 2,
}
SMALL_LETTERS = "abcdefghijklmnopqrstuvwxyz"
MOST_LETTERS = 8


class Desk:
    def __init__(self):
        self.lands = {}

    def say(self, row):
        words = words_of(row)
        word = words[0]
        if word in ("land", "join", "common", "less", "either", "hull"):
            name = checked_name(words[1])
            self.lands[name] = self.new_land(words)
            return "ok"
        if word == "drop":
            self.land_by(words[1])
            self.lands.pop(words[1])
            return "ok"
        if word == "find":
            return self.find_names(read_point(words[1]))
        if word == "same":
            one = self.land_by(words[1])
            return "yes" if one == self.land_by(words[2]) else "no"
        if word == "where":
            land = self.land_by(words[1])
            return where_word(where(land, read_point(words[2])))
        return told_of(word, self.land_by(words[1]))

    def land_by(self, name):
        if checked_name(name) not in self.lands:
            raise NoName("no land stands by this name")
        return self.lands[name]

    def new_land(self, words):
        word = words[0]
        if word == "land":
            return land_of(read(words[2]))
        one = self.land_by(words[2])
        if word == "hull":
            return land_of([hull(corners_of(one))])
        return made_of(word, one, self.land_by(words[3]))

    def find_names(self, P):
        inside = []
        on = []
        for name in sorted(list(self.lands)):
            told = where(self.lands[name], P)
            if told == 1:
                inside.append(name)
            if told == 0:
                on.append(name)
        return " ".join(inside + ["/"] + on)


# The words of a row that is one, TEXT as one word.
def words_of(row):
    if not isinstance(row, str):
        raise NoRow("a row is a text")
    words = row.split(" ")
    if words[0] == "land" and len(words) > 3:
        words = words[:2] + [" ".join(words[2:])]
    if WORD_COUNTS.get(words[0], 0) != len(words):
        raise NoRow("there is no such row")
    return words


def checked_name(word):
    if word == "" or len(word) > MOST_LETTERS or not all([sign in SMALL_LETTERS for sign in word]):
        raise NoName("a name has one to eight small letters")
    return word


def made_of(word, one, other):
    if word == "join":
        return join(one, other)
    if word == "common":
        return common(one, other)
    if word == "less":
        return less(one, other)
    return either(one, other)


def where_word(told):
    if told == 1:
        return "in"
    return "on" if told == 0 else "out"


def told_of(word, land):
    if word == "area":
        return show_fraction(area(land))
    if word == "show":
        return shown(land)
    if word == "triangles":
        return str(len(triangles(land)))
    return ring_counts(rings_of(land))


# A ring begins with its least point, and it turns there to the side to which it goes round.
def ring_counts(rings):
    round_land = len([ring for ring in rings if turn(ring[-1], ring[0], ring[1]) > 0])
    return str(round_land) + " " + str(len(rings) - round_land)
