"""What several tests need: the primes, and whole numbers of many sizes."""

PRIMES = (3, 5, 7, 11)

# Of sixty figures, the most of which anything is promised.
GREAT = (
    10 ** 59,
    10 ** 60 - 1,
    int("123456789" * 6 + "123456"),
    int("98765432101" * 5 + "98765"),
    3 * 5 * 7 * 11 * (10 ** 56 + 3),
)

SMALL = tuple(range(26)) + (100, 999, 1155, 123456789, 10 ** 18, 10 ** 30 + 7)

NATURAL = SMALL + GREAT

NUMBERS = NATURAL + tuple(-n for n in NATURAL if n)


def rest_by_figures(p, n):
    """The rest, found figure by figure and not by one division."""
    rest = 0
    for figure in str(abs(n)):
        rest = rest * 10 + int(figure)
        while rest >= p:
            rest -= p
    return rest if n >= 0 or rest == 0 else p - rest


def all_rows(p):
    """All rows of three rests but that of three times 0."""
    return [(x, y, z) for x in range(p) for y in range(p) for z in range(p) if (x, y, z) != (0, 0, 0)]


def all_triples(p):
    """The triples by their three shapes, in sorted order."""
    return (
        [(0, 0, 1)]
        + [(0, 1, z) for z in range(p)]
        + [(1, y, z) for y in range(p) for z in range(p)]
    )
