"""Six points: the meets of their opposite sides, and whether one curve has all six."""

from ovalfield.curves import value
from ovalfield.errors import NoCount
from ovalfield.joins import ask_no_three, join, meet
from ovalfield.through import curve_through


def side_meet(p, points, place):
    # The opposite side begins three places on.
    one = join(p, points[place], points[place + 1])
    other = join(p, points[place + 3], points[(place + 4) % 6])
    return meet(p, one, other)


def meets_of(p, points):
    if len(points) != 6:
        raise NoCount("six points are asked for")
    ask_no_three(p, points)
    return (side_meet(p, points, 0), side_meet(p, points, 1), side_meet(p, points, 2))


def six_told(p, points):
    meets = meets_of(p, points)
    curve = curve_through(p, points[:5])
    if value(p, curve, points[5]) == 0:
        return ("one", curve, meets, join(p, meets[0], meets[1]))
    return ("apart", meets)
