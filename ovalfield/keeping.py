"""Moves that keep a curve, and those that lead one whole curve to another."""

from ovalfield.curves import moved, points_of, value
from ovalfield.errors import Alike, NoCount, NotOn
from ovalfield.frames import frame_move
from ovalfield.joins import join
from ovalfield.poles import ask_whole, pole


def keeps(p, curve, table):
    return moved(p, curve, table) == curve


def frame_on(p, curve, three):
    # The pole is the meet of the first two's tangents. No other curve goes through the three
    # and has these tangents, so a table that leads the frame leads the curve.
    return [three[0], three[1], pole(p, curve, join(p, three[0], three[1])), three[2]]


def ask_points(p, curve, points):
    for place, point in enumerate(points):
        if value(p, curve, point) != 0:
            raise NotOn(point)
        if point in points[:place]:
            raise Alike(point)


def keeping(p, curve, three, goals):
    ask_whole(p, curve)
    if len(three) != 3 or len(goals) != 3:
        raise NoCount("three points are led to three")
    ask_points(p, curve, three)
    ask_points(p, curve, goals)
    return frame_move(p, frame_on(p, curve, three), frame_on(p, curve, goals))


def ordered_threes(points):
    rows = []
    for one in points:
        for other in points:
            if other != one:
                rows.extend([(one, other, third) for third in points if third != one and third != other])
    return rows


def all_keeping(p, curve):
    ask_whole(p, curve)
    points = points_of(p, curve)
    frame = frame_on(p, curve, points[:3])
    return sorted([frame_move(p, frame, frame_on(p, curve, goals)) for goals in ordered_threes(points)])


def curve_move(p, one, other):
    ask_whole(p, one)
    ask_whole(p, other)
    return frame_move(p, frame_on(p, one, points_of(p, one)[:3]), frame_on(p, other, points_of(p, other)[:3]))
