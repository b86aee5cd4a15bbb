"""What belongs together by a whole curve: polars and poles, tangents, lines that meet it."""

from ovalfield.curves import is_whole, twice_table, value
from ovalfield.errors import NotWhole
from ovalfield.joins import points_on
from ovalfield.tables import led, table_back, table_of

# By the number of the curve's points on a point's polar.
SIDES = ("inner", "on", "outer")


def ask_whole(p, curve):
    if not is_whole(p, curve):
        raise NotWhole("the curve is not whole")


def polar_table(p, curve):
    ask_whole(p, curve)
    return table_of(p, twice_table(p, curve))


def polar(p, curve, point):
    return led(p, polar_table(p, curve), point)


def pole(p, curve, line):
    return led(p, table_back(p, polar_table(p, curve)), line)


def met_by(p, curve, line):
    ask_whole(p, curve)
    return [point for point in points_on(p, line) if value(p, curve, point) == 0]


def tangents(p, curve, point):
    # A tangent goes through the point just where it touches at a point of the polar.
    return sorted([polar(p, curve, touched) for touched in met_by(p, curve, polar(p, curve, point))])


def side(p, curve, point):
    return SIDES[len(met_by(p, curve, polar(p, curve, point)))]
