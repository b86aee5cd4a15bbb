"""Papers of a set of points: any thing, which stands or does not."""

from ovalfield.curves import is_whole, points_of
from ovalfield.joins import first_three, measure, triples
from ovalfield.triples import one_form


def is_rest(p, thing):
    return isinstance(thing, int) and not isinstance(thing, bool) and 0 <= thing < p


def is_tuple_of(thing, count):
    return isinstance(thing, tuple) and len(thing) == count


def is_form(p, thing, count):
    if not is_tuple_of(thing, count):
        return False
    # Asked first of each, for a truth would be equal to a rest.
    if not all([is_rest(p, number) for number in thing]):
        return False
    return any(thing) and one_form(p, thing) == thing


def is_held(p, points, thing):
    return is_form(p, thing, 3) and thing in points


def line_stands(p, points, three):
    if not is_tuple_of(three, 3) or not all([is_held(p, points, point) for point in three]):
        return False
    if three[0] == three[1] or three[0] == three[2] or three[1] == three[2]:
        return False
    return measure(p, three[0], three[1], three[2]) == 0


def curve_stands(p, points, curve):
    return is_form(p, curve, 6) and is_whole(p, curve) and points_of(p, curve) == sorted(points)


def more_stands(p, points, point):
    return is_form(p, point, 3) and point not in points and first_three(p, points + [point]) is None


def row_stands(p, points, point, row):
    if not is_tuple_of(row, 3) or not is_form(p, row[0], 3) or row[0] != point:
        return False
    if not is_held(p, points, row[1]) or not is_held(p, points, row[2]) or row[1] == row[2]:
        return False
    return measure(p, row[0], row[1], row[2]) == 0


def ends_stand(p, points, rows):
    if not isinstance(rows, list) or len(points) > p or first_three(p, points) is not None:
        return False
    left = [point for point in triples(p) if point not in points]
    return len(rows) == len(left) and all([row_stands(p, points, point, row) for point, row in zip(left, rows)])


def stands(p, points, paper):
    if not is_tuple_of(paper, 2) or not isinstance(paper[0], str):
        return False
    if paper[0] == "line":
        return line_stands(p, points, paper[1])
    if paper[0] == "curve":
        return curve_stands(p, points, paper[1])
    if paper[0] == "more":
        return more_stands(p, points, paper[1])
    if paper[0] == "ends":
        return ends_stand(p, points, paper[1])
    return False
