"""Rests of whole numbers by a prime p: turned over, their powers and roots."""

from ovalfield.errors import NoOver, NoPrime

PRIMES = (3, 5, 7, 11)


def prime_of(number):
    if number not in PRIMES:
        raise NoPrime("a prime is 3, 5, 7 or 11 here")
    return number


def rest(p, n):
    return n % p


def turned_over(p, n):
    for turned in range(1, p):
        if rest(p, n * turned) == 1:
            return turned
    raise NoOver("a number with the rest 0 is not turned over")


def power(p, a, n):
    product = 1
    square = rest(p, a)
    left = n
    # n may have sixty figures, so the factors are not multiplied one by one.
    while left > 0:
        if left % 2 == 1:
            product = rest(p, product * square)
        square = rest(p, square * square)
        left = left // 2
    return product


def root(p, a):
    for least in range(p):
        if rest(p, least * least) == rest(p, a):
            return least
    return None
