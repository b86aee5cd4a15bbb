"""Curves of second rank: six rests, their values and points, and how tables move them."""

from ovalfield.errors import NoCurve
from ovalfield.joins import measure, triples
from ovalfield.rests import rest
from ovalfield.tables import columns, sums_by, table_back
from ovalfield.triples import one_form


def curve_of(p, numbers):
    rests = [rest(p, number) for number in numbers]
    if not any(rests):
        raise NoCurve("all six numbers have the rest 0")
    return one_form(p, rests)


def plain_curve(p):
    return curve_of(p, (0, 1, 0, 0, -1, 0))


def value(p, curve, point):
    squares = curve[0] * point[0] * point[0] + curve[1] * point[1] * point[1] + curve[2] * point[2] * point[2]
    products = curve[3] * point[0] * point[1] + curve[4] * point[0] * point[2] + curve[5] * point[1] * point[2]
    return rest(p, squares + products)


def valuer(p, curve):
    def value_at(point):
        return value(p, curve, point)

    return value_at


def points_of(p, curve):
    return [point for point in triples(p) if value(p, curve, point) == 0]


def twice_table(p, curve):
    return (
        (rest(p, 2 * curve[0]), curve[3], curve[4]),
        (curve[3], rest(p, 2 * curve[1]), curve[5]),
        (curve[4], curve[5], rest(p, 2 * curve[2])),
    )


def is_whole(p, curve):
    rows = twice_table(p, curve)
    return measure(p, rows[0], rows[1], rows[2]) != 0


def mixed(p, curve, one, other):
    # So much stands by x * y in the curve's value at x times the one and y times the other.
    sums = sums_by(p, twice_table(p, curve), one)
    return sums[0] * other[0] + sums[1] * other[1] + sums[2] * other[2]


def moved(p, curve, table):
    # The table back makes x, y, z into x, y, z times its columns, added up.
    sides = columns(table_back(p, table))
    squares = [value(p, curve, side) for side in sides]
    products = [
        mixed(p, curve, sides[0], sides[1]),
        mixed(p, curve, sides[0], sides[2]),
        mixed(p, curve, sides[1], sides[2]),
    ]
    return curve_of(p, squares + products)
