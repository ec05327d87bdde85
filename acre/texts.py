"""Texts: rings, points and fractions read from texts and shown as texts."""

from acre.errors import NoText
from acre.points import across, point, up
from acre.rings import rings_of
from acre.wholes import divisor

FIGURES = "0123456789"
MOST_FIGURES = 60


def read(text):
    if not isinstance(text, str):
        raise NoText("rings are told by a text")
    if text == "":
        return []
    return [read_ring(part) for part in text.split("; ")]


def read_ring(text):
    return [read_point(part) for part in text.split(" ")]


def read_point(text):
    if not isinstance(text, str):
        raise NoText("a point is told by a text")
    parts = text.split(",")
    if len(parts) != 2:
        raise NoText("a point is told as X,Y")
    x = read_number(parts[0])
    y = read_number(parts[1])
    return point(x[0] * y[1], y[0] * x[1], x[1] * y[1])


# A whole number or a fraction, as a tuple (top, bottom).
def read_number(text):
    parts = text.split("/")
    if len(parts) > 2:
        raise NoText("a fraction has one bottom")
    top = read_whole(parts[0])
    if len(parts) == 1:
        return (top, 1)
    bottom = read_whole(parts[1])
    if bottom < 2 or divisor(top, bottom) != 1:
        raise NoText("a fraction stands in lowest terms, with a bottom from 2 on")
    return (top, bottom)


def read_whole(text):
    figures = text[1:] if text.startswith("-") else text
    if not is_row_of_figures(figures):
        raise NoText("a number has one to sixty figures")
    # A nought ahead stands in 0 alone, and with no sign.
    if figures.startswith("0") and text != "0":
        raise NoText("no nought stands ahead of a number")
    return int(text)


# Python counts other signs than these among the figures, too.
def is_row_of_figures(text):
    if text == "" or len(text) > MOST_FIGURES:
        return False
    return all([sign in FIGURES for sign in text])


def shown(land):
    return "; ".join([show_ring(ring) for ring in rings_of(land)])


def show_ring(ring):
    return " ".join([show_point(P) for P in ring])


def show_point(P):
    return show_fraction(across(P)) + "," + show_fraction(up(P))


def show_fraction(one):
    if one[1] == 1:
        return str(one[0])
    return str(one[0]) + "/" + str(one[1])
