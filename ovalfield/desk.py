"""A desk: it is told rows of text and answers with texts."""

from ovalfield.curves import curve_of
from ovalfield.errors import Alike, NoCurve, NoRow, NothingDone, NotOn, TooMany
from ovalfield.kinds import kind
from ovalfield.pictures import drawn
from ovalfield.poles import polar, pole, side
from ovalfield.sets import grown, look
from ovalfield.texts import rests_read
from ovalfield.through import curve_through
from ovalfield.triples import Line, Point, one_form, row_of

# Each row's first word, and how many rests stand behind it.
COUNTS = {
    "put": 3, "take": 3, "grow": 0, "five": 0, "curve": 6, "undo": 0, "points": 0, "look": 0, "draw": 0,
    "kind": 0, "side": 3, "polar": 3, "pole": 3,
}
OF_THE_LIST = ("put", "take", "grow")
MAKE_A_CURVE = ("five", "curve")
ASK_THE_CURVE = ("kind", "side", "polar", "pole")
MOST = 30


def rests_of_row(p, words):
    rests = rests_read(p, words[1:])
    if rests is None or words[0] not in COUNTS or len(rests) != COUNTS[words[0]]:
        raise NoRow("no row of a desk")
    return rests


def told_by(p, rests):
    if len(rests) == 3:
        return one_form(p, rests)
    if len(rests) == 6:
        return curve_of(p, rests)
    return None


def put_in(points, point):
    if point in points:
        raise Alike(point)
    if len(points) >= MOST:
        raise TooMany("there are thirty points already")
    return points + [point]


def taken_out(points, point):
    if point not in points:
        raise NotOn(point)
    return [other for other in points if other != point]


def point_texts(p, points):
    return [Point(p, point).shown() for point in points]


def line_texts(p, lines):
    return [Line(p, line).shown() for line in lines]


def look_text(p, points):
    told = look(p, points)
    if told[0] == "line":
        return " ".join(["line"] + point_texts(p, told[1]))
    if told[0] == "curve":
        return "curve " + row_of(told[1])
    if told[0] == "more":
        return "more " + Point(p, told[1]).shown()
    return "ends " + str(len(told[1]))


def kind_text(p, curve):
    told = kind(p, curve)
    if told[0] == "whole":
        return "whole"
    if told[0] == "point":
        return "point " + Point(p, told[1]).shown()
    return " ".join([told[0]] + line_texts(p, told[1:]))


class Desk:
    def __init__(self, p):
        self.p = p
        self.points = []
        self.curve = None
        self.past = []

    def say(self, row):
        words = row.split(" ")
        word = words[0]
        form = told_by(self.p, rests_of_row(self.p, words))
        if word in ASK_THE_CURVE and self.curve is None:
            raise NoCurve("the desk has no curve")
        if word in ASK_THE_CURVE:
            return [self.curve_asked(word, form)]
        if word in MAKE_A_CURVE:
            return self.curve_made(form)
        if word in OF_THE_LIST:
            return self.list_changed(word, form)
        if word == "undo":
            return self.undone()
        return self.list_asked(word)

    def curve_asked(self, word, form):
        if word == "side":
            return side(self.p, self.curve, form)
        if word == "polar":
            return Line(self.p, polar(self.p, self.curve, form)).shown()
        if word == "pole":
            return Point(self.p, pole(self.p, self.curve, form)).shown()
        return kind_text(self.p, self.curve)

    def curve_made(self, form):
        curve = form
        if curve is None:
            curve = curve_through(self.p, self.points)
        self.changed(self.points, curve)
        return ["curve " + row_of(curve)]

    def list_changed(self, word, form):
        if word == "put":
            points = put_in(self.points, form)
        elif word == "take":
            points = taken_out(self.points, form)
        else:
            points = grown(self.p, self.points)
        self.changed(points, self.curve)
        return [str(len(points))]

    def changed(self, points, curve):
        # A list once kept is never changed but only followed by another, so the past may hold it as it is.
        self.past.append((self.points, self.curve))
        self.points = points
        self.curve = curve

    def undone(self):
        if len(self.past) == 0:
            raise NothingDone("there is nothing to undo")
        ahead = self.past.pop()
        self.points = ahead[0]
        self.curve = ahead[1]
        return [str(len(self.points))]

    def list_asked(self, word):
        if word == "points":
            return point_texts(self.p, self.points)
        if word == "look":
            return [look_text(self.p, self.points)]
        return drawn(self.p, self.points)
