"""Sets of points drawn as texts, and seen again."""

from ovalfield.errors import NoPicture
from ovalfield.triples import one_form


def picture_rows(p):
    rows = []
    for y in range(p - 1, -1, -1):
        rows.append([one_form(p, (x, y, 1)) for x in range(p)])
    rows.append([(1, m, 0) for m in range(p)] + [(0, 1, 0)])
    return rows


def row_drawn(points, row):
    return "".join(["#" if point in points else "." for point in row])


def drawn(p, points):
    return [row_drawn(points, row) for row in picture_rows(p)]


def row_seen(text, row):
    if len(text) != len(row):
        raise NoPicture("a text of another length")
    told = []
    for sign, point in zip(text, row):
        if sign == "#":
            told.append(point)
        elif sign != ".":
            raise NoPicture("a sign that is not drawn")
    return told


def seen(p, texts):
    rows = picture_rows(p)
    if len(texts) != len(rows):
        raise NoPicture("texts too many or few")
    told = []
    for text, row in zip(texts, rows):
        told.extend(row_seen(text, row))
    return sorted(told)
