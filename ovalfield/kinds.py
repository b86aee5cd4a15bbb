"""The four kinds of curves."""

from ovalfield.curves import is_whole, plain_curve, points_of, twice_table
from ovalfield.joins import join, on
from ovalfield.keeping import curve_move
from ovalfield.tables import sums_by


def crossing(p, curve, points):
    # Of all points of two lines only the one on both has no polar: three noughts come there.
    rows = twice_table(p, curve)
    return [point for point in points if not any(sums_by(p, rows, point))][0]


def two_lines(p, curve, points):
    middle = crossing(p, curve, points)
    one = join(p, middle, [point for point in points if point != middle][0])
    other = join(p, middle, [point for point in points if not on(p, point, one)][0])
    return sorted([one, other])


def kind(p, curve):
    if is_whole(p, curve):
        return ("whole", curve_move(p, plain_curve(p), curve))
    points = points_of(p, curve)
    if len(points) == 1:
        return ("point", points[0])
    if len(points) == p + 1:
        return ("twice", join(p, points[0], points[1]))
    lines = two_lines(p, curve, points)
    return ("lines", lines[0], lines[1])
