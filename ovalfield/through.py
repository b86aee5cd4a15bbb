"""The curve through five points."""

from ovalfield.curves import curve_of, value
from ovalfield.errors import NoCount, OnLine
from ovalfield.joins import ask_unlike, join, measure


def first_four(p, points):
    # The later the place that is left out of the five, the lesser the places that stay.
    for place in (4, 3, 2, 1, 0):
        four = points[:place] + points[place + 1:]
        if measure(p, four[0], four[1], four[2]) == 0 and measure(p, four[0], four[1], four[3]) == 0:
            return tuple(four)
    return None


def lines_multiplied(one, other):
    return (
        one[0] * other[0],
        one[1] * other[1],
        one[2] * other[2],
        one[0] * other[1] + one[1] * other[0],
        one[0] * other[2] + one[2] * other[0],
        one[1] * other[2] + one[2] * other[1],
    )


def five_curve(p, points):
    # Both curves go through the first four, so each sum of multiples does; this one goes through the last too.
    one = lines_multiplied(join(p, points[0], points[1]), join(p, points[2], points[3]))
    other = lines_multiplied(join(p, points[0], points[2]), join(p, points[1], points[3]))
    by_one = value(p, other, points[4])
    by_other = value(p, one, points[4])
    return curve_of(p, [by_one * number - by_other * beside for number, beside in zip(one, other)])


def curve_through(p, points):
    if len(points) != 5:
        raise NoCount("a curve is told by five points")
    ask_unlike(points)
    four = first_four(p, points)
    if four is not None:
        raise OnLine(four)
    return five_curve(p, points)
