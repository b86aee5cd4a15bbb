"""Frames of four points, and the move that leads one frame to another."""

from ovalfield.errors import NoCount
from ovalfield.joins import ask_no_three, measure
from ovalfield.tables import after, columns, table_back, table_of


def scaled(factor, point):
    return [factor * number for number in point]


def frame_table(p, four):
    # By these factors the first three add up to a multiple of the fourth one,
    # so this table leads (1, 0, 0), (0, 1, 0), (0, 0, 1) and (1, 1, 1) to the four.
    sides = (
        scaled(measure(p, four[3], four[1], four[2]), four[0]),
        scaled(measure(p, four[0], four[3], four[2]), four[1]),
        scaled(measure(p, four[0], four[1], four[3]), four[2]),
    )
    return table_of(p, columns(sides))


def frame_move(p, four, goals):
    if len(four) != 4 or len(goals) != 4:
        raise NoCount("a frame has four points")
    ask_no_three(p, four)
    ask_no_three(p, goals)
    return after(p, frame_table(p, goals), table_back(p, frame_table(p, four)))
