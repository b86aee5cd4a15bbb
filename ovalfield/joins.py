"""Joins of points, meets of lines, and what lies on one line."""

from ovalfield.errors import Alike, OnLine
from ovalfield.rests import rest
from ovalfield.triples import crossed, lies, one_form


def on(p, point, line):
    return lies(p, point, line)


def join(p, one, other):
    return one_form(p, crossed(one, other))


def meet(p, one, other):
    return one_form(p, crossed(one, other))


def measure(p, one, other, third):
    return rest(
        p,
        one[0] * (other[1] * third[2] - other[2] * third[1])
        - one[1] * (other[0] * third[2] - other[2] * third[0])
        + one[2] * (other[0] * third[1] - other[1] * third[0]),
    )


def first_three(p, points):
    for i, one in enumerate(points):
        for j in range(i + 1, len(points)):
            for k in range(j + 1, len(points)):
                if measure(p, one, points[j], points[k]) == 0:
                    return (one, points[j], points[k])
    return None


def ask_unlike(points):
    for place, point in enumerate(points):
        if point in points[:place]:
            raise Alike(point)


def ask_no_three(p, points):
    three = first_three(p, points)
    if three is not None:
        raise OnLine(three)


def triples(p):
    # By the place of the first 1, from the last place on: so they come sorted.
    told = [(0, 0, 1)]
    for z in range(p):
        told.append((0, 1, z))
    for y in range(p):
        told.extend([(1, y, z) for z in range(p)])
    return told


def points_on(p, line):
    return [point for point in triples(p) if lies(p, point, line)]


def lines_through(p, point):
    return [line for line in triples(p) if lies(p, point, line)]
