"""Tables of nine rests, which lead points to points and lines to lines."""

from ovalfield.errors import NoTable
from ovalfield.joins import measure
from ovalfield.rests import rest
from ovalfield.triples import crossed, one_form


def columns(rows):
    return tuple(zip(rows[0], rows[1], rows[2]))


def sums_by(p, rows, numbers):
    return tuple([rest(p, row[0] * numbers[0] + row[1] * numbers[1] + row[2] * numbers[2]) for row in rows])


def table_of(p, rows):
    if measure(p, rows[0], rows[1], rows[2]) == 0:
        raise NoTable("the measure of the rows is 0")
    nine = one_form(p, list(rows[0]) + list(rows[1]) + list(rows[2]))
    return (nine[:3], nine[3:6], nine[6:])


def crossed_rows(table):
    return (crossed(table[1], table[2]), crossed(table[2], table[0]), crossed(table[0], table[1]))


def led(p, table, point):
    return one_form(p, sums_by(p, table, point))


def led_line(p, table, line):
    # The crossed rows are, but for a factor, the columns of the table back.
    return one_form(p, sums_by(p, crossed_rows(table), line))


def after(p, one, other):
    sides = columns(other)
    return table_of(p, [sums_by(p, sides, row) for row in one])


def table_back(p, table):
    return table_of(p, columns(crossed_rows(table)))
