"""What several tests need: the primes, numbers of many sizes, and what the document says reckoned by trying."""

import itertools

PRIMES = (3, 5, 7, 11)

# Of sixty figures, the most of which anything is promised.
GREAT = (
    10 ** 59,
    10 ** 60 - 1,
    int("123456789" * 6 + "123456"),
    int("98765432101" * 5 + "98765"),
    3 * 5 * 7 * 11 * (10 ** 56 + 3),
)

SMALL = tuple(range(26)) + (100, 999, 1155, 123456789, 10 ** 18, 10 ** 30 + 7)

NATURAL = SMALL + GREAT

# The table that leads each point to itself, by every prime.
EVEN = ((1, 0, 0), (0, 1, 0), (0, 0, 1))

NUMBERS = NATURAL + tuple(-n for n in NATURAL if n)


def rest_by_figures(p, n):
    """The rest, found figure by figure and not by one division."""
    rest = 0
    for figure in str(abs(n)):
        rest = rest * 10 + int(figure)
        while rest >= p:
            rest -= p
    return rest if n >= 0 or rest == 0 else p - rest


def all_rows(p):
    """All rows of three rests but that of three times 0."""
    return [(x, y, z) for x in range(p) for y in range(p) for z in range(p) if (x, y, z) != (0, 0, 0)]


def all_triples(p):
    """The triples by their three shapes, in sorted order."""
    return (
        [(0, 0, 1)]
        + [(0, 1, z) for z in range(p)]
        + [(1, y, z) for y in range(p) for z in range(p)]
    )


def form(p, numbers):
    """One form by trying: of all multiples the one whose first rest other than 0 is 1."""
    for factor in range(1, p):
        rests = tuple(factor * n % p for n in numbers)
        if [n for n in rests if n][:1] == [1]:
            return rests
    return None


def lies(p, point, line):
    return sum(a * b for a, b in zip(point, line)) % p == 0


def measured(p, rows):
    """The measure as a sum over the six orders of three places."""
    signs = {(0, 1, 2): 1, (1, 2, 0): 1, (2, 0, 1): 1, (0, 2, 1): -1, (1, 0, 2): -1, (2, 1, 0): -1}
    return sum(sign * rows[0][i] * rows[1][j] * rows[2][k] for (i, j, k), sign in signs.items()) % p


def three_on_a_line(p, points):
    """The three of the least places on a line, found by walking all places; None where there are none."""
    for three in itertools.combinations(points, 3):
        if measured(p, three) == 0:
            return three
    return None


def is_row(p, thing, count):
    """Whether the thing is a tuple of so many rests, none of them a truth."""
    return type(thing) is tuple and len(thing) == count and all(type(n) is int and 0 <= n < p for n in thing)


def is_triple(p, thing):
    return is_row(p, thing, 3) and any(thing) and form(p, thing) == thing


def is_table(p, thing):
    """Whether the thing is a table by the words of the document."""
    return (
        type(thing) is tuple
        and len(thing) == 3
        and all(is_row(p, row, 3) for row in thing)
        and measured(p, thing) != 0
        and form(p, sum(thing, ())) == sum(thing, ())
    )


def sums(p, rows, numbers):
    return tuple(sum(a * b for a, b in zip(row, numbers)) % p for row in rows)


def led_by(p, rows, point):
    return form(p, sums(p, rows, point))


class Draws:
    """Numbers that are the same in every run: each from the one before."""

    def __init__(self, seed):
        self.state = seed

    def below(self, bound):
        self.state = (self.state * 6364136223846793005 + 1442695040888963407) % 2 ** 64
        return (self.state >> 33) % bound

    def row(self, p, count):
        return tuple(self.below(p) for place in range(count))

    def chosen(self, things):
        return things[self.below(len(things))]

    def mixed(self, things):
        left, told = list(things), []
        while left:
            told.append(left.pop(self.below(len(left))))
        return told

    def table(self, p):
        while True:
            rows = [self.row(p, 3) for place in range(3)]
            if measured(p, rows) != 0:
                nine = form(p, sum(rows, ()))
                return (nine[:3], nine[3:6], nine[6:])
