"""Triples of rests in one form, and the points and lines that they tell."""

from ovalfield.errors import Alike, NoTriple
from ovalfield.rests import rest, turned_over


def one_form(p, numbers):
    rests = [rest(p, number) for number in numbers]
    for first in rests:
        if first != 0:
            factor = turned_over(p, first)
            return tuple([rest(p, factor * number) for number in rests])
    raise NoTriple("all the numbers have the rest 0")


def crossed(one, other):
    # In one form two triples tell the same only where they are equal,
    # and only then would all three numbers have the rest 0.
    if one == other:
        raise Alike(one)
    return (
        one[1] * other[2] - one[2] * other[1],
        one[2] * other[0] - one[0] * other[2],
        one[0] * other[1] - one[1] * other[0],
    )


def lies(p, point, line):
    return rest(p, point[0] * line[0] + point[1] * line[1] + point[2] * line[2]) == 0


def row_of(triple):
    return " ".join([str(number) for number in triple])


class Triple:
    def __init__(self, p, numbers):
        self.p = p
        self.triple = one_form(p, numbers)

    def told(self):
        return self.triple

    def shown(self):
        return row_of(self.triple)


class Point(Triple):
    def shown(self):
        return "(" + row_of(self.triple) + ")"

    def across(self, other):
        return Line(self.p, crossed(self.triple, other.told()))

    def meets(self, other):
        return lies(self.p, self.triple, other.told())


class Line(Triple):
    def shown(self):
        return "[" + row_of(self.triple) + "]"

    def across(self, other):
        return Point(self.p, crossed(self.triple, other.told()))

    def meets(self, other):
        return lies(self.p, other.told(), self.triple)
