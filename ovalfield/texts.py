"""Texts that are read as points and lines, and the rests written in them."""

from ovalfield.errors import BadRow
from ovalfield.triples import Line, Point


def rest_read(p, word):
    # Held against each rest's own text: so 01, a sign or a foreign figure is none.
    for number in range(p):
        if word == str(number):
            return number
    return None


def rests_read(p, words):
    rests = [rest_read(p, word) for word in words]
    if None in rests:
        return None
    return rests


def read_at(p, text, row):
    rests = rests_read(p, text[1:-1].split(" "))
    if rests is None or len(rests) != 3 or not any(rests):
        raise BadRow(row)
    brackets = text[0] + text[-1]
    if brackets == "()":
        return Point(p, rests)
    if brackets == "[]":
        return Line(p, rests)
    raise BadRow(row)


def read_one(p, text):
    return read_at(p, text, 0)


def read_all(p, texts):
    return [read_at(p, text, row) for row, text in enumerate(texts)]
