"""What several tests need: the primes, numbers of many sizes, and what the document says reckoned by trying."""

import itertools

PRIMES = (3, 5, 7, 11)

# Of sixty figures, the most of which anything is promised.
GREAT = (
    10 ** 59,
    10 ** 60 - 1,
    int("123456789" * 6 + "123456"),
    int("98765432101" * 5 + "98765"),
    3 * 5 * 7 * 11 * (10 ** 56 + 3),
)

SMALL = tuple(range(26)) + (100, 999, 1155, 123456789, 10 ** 18, 10 ** 30 + 7)

NATURAL = SMALL + GREAT

# A frame by every prime; led by tables it gives all the others.
FRAME = [(1, 0, 0), (0, 1, 0), (0, 0, 1), (1, 1, 1)]

# By 7 and by 11 sets without three on a line that are smaller than a curve and to which no point can be put.
SHUT = {
    7: [(0, 0, 1), (0, 1, 0), (1, 0, 0), (1, 1, 1), (1, 2, 3), (1, 3, 4)],
    11: [(0, 0, 1), (0, 1, 0), (1, 0, 0), (1, 1, 1), (1, 2, 3), (1, 3, 2), (1, 4, 5), (1, 5, 4)],
}

SORTS = ("point", "twice", "lines", "whole")

# The table that leads each point to itself, by every prime.
EVEN = ((1, 0, 0), (0, 1, 0), (0, 0, 1))

NUMBERS = NATURAL + tuple(-n for n in NATURAL if n)


def rest_by_figures(p, n):
    """The rest, found figure by figure and not by one division."""
    rest = 0
    for figure in str(abs(n)):
        rest = rest * 10 + int(figure)
        while rest >= p:
            rest -= p
    return rest if n >= 0 or rest == 0 else p - rest


def all_rows(p):
    """All rows of three rests but that of three times 0."""
    return [(x, y, z) for x in range(p) for y in range(p) for z in range(p) if (x, y, z) != (0, 0, 0)]


def all_triples(p):
    """The triples by their three shapes, in sorted order."""
    return (
        [(0, 0, 1)]
        + [(0, 1, z) for z in range(p)]
        + [(1, y, z) for y in range(p) for z in range(p)]
    )


def form(p, numbers):
    """One form by trying: of all multiples the one whose first rest other than 0 is 1."""
    for factor in range(1, p):
        rests = tuple(factor * n % p for n in numbers)
        if [n for n in rests if n][:1] == [1]:
            return rests
    return None


def lies(p, point, line):
    return sum(a * b for a, b in zip(point, line)) % p == 0


def measured(p, rows):
    """The measure as a sum over the six orders of three places."""
    signs = {(0, 1, 2): 1, (1, 2, 0): 1, (2, 0, 1): 1, (0, 2, 1): -1, (1, 0, 2): -1, (2, 1, 0): -1}
    return sum(sign * rows[0][i] * rows[1][j] * rows[2][k] for (i, j, k), sign in signs.items()) % p


def three_on_a_line(p, points):
    """The three of the least places on a line, found by walking all places; None where there are none."""
    for three in itertools.combinations(points, 3):
        if measured(p, three) == 0:
            return three
    return None


def is_row(p, thing, count):
    """Whether the thing is a tuple of so many rests, none of them a truth."""
    return type(thing) is tuple and len(thing) == count and all(type(n) is int and 0 <= n < p for n in thing)


def is_triple(p, thing):
    return is_row(p, thing, 3) and any(thing) and form(p, thing) == thing


def is_table(p, thing):
    """Whether the thing is a table by the words of the document."""
    return (
        type(thing) is tuple
        and len(thing) == 3
        and all(is_row(p, row, 3) for row in thing)
        and measured(p, thing) != 0
        and form(p, sum(thing, ())) == sum(thing, ())
    )


def sums(p, rows, numbers):
    return tuple(sum(a * b for a, b in zip(row, numbers)) % p for row in rows)


def led_by(p, rows, point):
    return form(p, sums(p, rows, point))


def joined(p, one, other):
    """The line of two unlike points, or the point of two unlike lines, found by trying."""
    return [triple for triple in all_triples(p) if lies(p, one, triple) and lies(p, other, triple)][0]


def fits(p, points):
    """The points not in the set that with two of it are never on a line."""
    pairs = list(itertools.combinations(points, 2))
    return [
        point for point in all_triples(p)
        if point not in points and all(measured(p, (one, other, point)) for one, other in pairs)
    ]


def rank(p, rows):
    """How many of the rows are no sum of multiples of others, by clearing one column after another."""
    left, found = [list(row) for row in rows], 0
    for place in range(len(rows[0])):
        lead = next((row for row in left if row[place] % p), None)
        if lead is None:
            continue
        left.remove(lead)
        found += 1
        over = pow(lead[place], p - 2, p)
        left = [[(n - row[place] * over * m) % p for n, m in zip(row, lead)] for row in left]
    return found


def second_rank(point):
    """What stands by the six numbers of a curve in its value at the point."""
    x, y, z = point
    return (x * x, y * y, z * z, x * y, x * z, y * z)


class Draws:
    """Numbers that are the same in every run: each from the one before."""

    def __init__(self, seed):
        self.state = seed

    def below(self, bound):
        self.state = (self.state * 6364136223846793005 + 1442695040888963407) % 2 ** 64
        return (self.state >> 33) % bound

    def row(self, p, count):
        return tuple(self.below(p) for place in range(count))

    def chosen(self, things):
        return things[self.below(len(things))]

    def mixed(self, things):
        left, told = list(things), []
        while left:
            told.append(left.pop(self.below(len(left))))
        return told

    def table(self, p):
        while True:
            rows = [self.row(p, 3) for place in range(3)]
            if measured(p, rows) != 0:
                nine = form(p, sum(rows, ()))
                return (nine[:3], nine[3:6], nine[6:])

    def frame(self, p):
        table = self.table(p)
        return [led_by(p, table, point) for point in FRAME]

    def unlike(self, p, count):
        return self.mixed(all_triples(p))[:count]

    def arc(self, p, count):
        """Up to so many points without three on a line, put in one by one as long as one fits."""
        told = []
        while len(told) < count and fits(p, told):
            told.append(self.chosen(fits(p, told)))
        return told

    def curve(self, p, sort):
        """A curve of that sort, built of lines and so without asking the program."""
        rows = self.table(p)
        if sort == "point":
            # n is no square, so the value is nought only where both lines are.
            n = [n for n in range(p) if all(t * t % p != n for t in range(p))][0]
            return form(p, added(multiplied(rows[0], rows[0]), multiplied(rows[1], rows[1]), -n))
        if sort == "twice":
            return form(p, multiplied(rows[0], rows[0]))
        if sort == "lines":
            return form(p, multiplied(rows[0], rows[1]))
        return form(p, added(multiplied(rows[1], rows[1]), multiplied(rows[0], rows[2]), -1))


def multiplied(one, other):
    """The six numbers of the curve that is two lines."""
    return [one[i] * other[i] for i in range(3)] + [
        one[i] * other[j] + one[j] * other[i] for i, j in ((0, 1), (0, 2), (1, 2))
    ]


def added(one, other, factor):
    return [a + factor * b for a, b in zip(one, other)]


def value_by(p, curve, point):
    a, b, c, d, e, f = curve
    x, y, z = point
    return (a * x * x + b * y * y + c * z * z + d * x * y + e * x * z + f * y * z) % p


def curve_points(p, curve):
    return [point for point in all_triples(p) if value_by(p, curve, point) == 0]


def twice_rows(p, curve):
    a, b, c, d, e, f = curve
    return tuple(tuple(n % p for n in row) for row in ((2 * a, d, e), (d, 2 * b, f), (e, f, 2 * c)))


def leads(p, table, one, other):
    """Whether the one curve moved by the table is the other, by their values at all points."""
    factors = set()
    for row in all_triples(p):
        ahead, behind = value_by(p, one, row), value_by(p, other, sums(p, table, row))
        if (ahead == 0) != (behind == 0):
            return False
        if ahead:
            factors.add(behind * pow(ahead, p - 2, p) % p)
    return len(factors) == 1


def is_curve(p, thing):
    return is_row(p, thing, 6) and any(thing) and form(p, thing) == thing


def all_curves(p):
    return [six for six in itertools.product(range(p), repeat=6) if [n for n in six if n][:1] == [1]]


def curves_of_all_sorts(p, many):
    """So many of each sort, each with the sort's name."""
    draws = Draws(60 + p)
    return [(sort, draws.curve(p, sort)) for sort in SORTS for turn in range(many)]


def whole_curves(p, many):
    return [(0, 1, 0, 0, p - 1, 0)] + [curve for sort, curve in curves_of_all_sorts(p, many) if sort == "whole"]
