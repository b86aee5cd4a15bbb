"""Sets of points without three on a line: looked at, grown, and their further sets."""

from ovalfield.curves import moved, plain_curve, points_of
from ovalfield.errors import TooMany
from ovalfield.frames import frame_move
from ovalfield.joins import ask_no_three, ask_unlike, first_three, join, measure, on, triples
from ovalfield.through import curve_through

MOST = 300


def on_any(p, point, lines):
    for line in lines:
        if on(p, point, line):
            return True
    return False


def still_fitting(p, points, further_point, left):
    # Only the lines through the further point are new.
    lines = [join(p, point, further_point) for point in points]
    return [point for point in left if point != further_point and not on_any(p, point, lines)]


def fitting(p, points):
    left = triples(p)
    for place, point in enumerate(points):
        left = still_fitting(p, points[:place], point, left)
    return left


def curve_on(p, points):
    if len(points) < 5:
        # By 3 the set is a frame, as the four points of the plain curve are.
        plain = plain_curve(p)
        return moved(p, plain, frame_move(p, points_of(p, plain), points))
    return curve_through(p, points[:5])


def first_two(p, points, point):
    for place, one in enumerate(points):
        for other in points[place + 1:]:
            if measure(p, one, other, point) == 0:
                return (one, other)
    return None


def end_rows(p, points):
    return [(point,) + first_two(p, points, point) for point in triples(p) if point not in points]


def look(p, points):
    ask_unlike(points)
    three = first_three(p, points)
    if three is not None:
        return ("line", three)
    if len(points) == p + 1:
        return ("curve", curve_on(p, points))
    left = fitting(p, points)
    if len(left) > 0:
        return ("more", left[0])
    return ("ends", end_rows(p, points))


def ask_set(p, points):
    ask_unlike(points)
    ask_no_three(p, points)


def grown(p, points):
    ask_set(p, points)
    told = list(points)
    left = fitting(p, told)
    while len(left) > 0:
        point = left[0]
        left = still_fitting(p, told, point, left)
        told.append(point)
    return told


def further_rows(p, points, left, many):
    if many == 0:
        return [()]
    rows = []
    for place, point in enumerate(left):
        behind = still_fitting(p, points, point, left[place + 1:])
        for row in further_rows(p, points + [point], behind, many - 1):
            rows.append((point,) + row)
    return rows


def further(p, points, many=1):
    ask_set(p, points)
    rows = further_rows(p, points, fitting(p, points), many)
    if len(rows) > MOST:
        raise TooMany("there are more than three hundred further sets")
    return rows
