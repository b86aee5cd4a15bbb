import unittest

from samples import GREAT, NATURAL, NUMBERS, PRIMES, rest_by_figures

from ovalfield.errors import NoOver, NoPrime
from ovalfield.rests import power, prime_of, rest, root, turned_over


class TestPrimeOf(unittest.TestCase):
    def test_the_four_primes_are_told(self):
        for p in PRIMES:
            self.assertEqual(prime_of(p), p)
            self.assertIs(type(prime_of(p)), int)

    def test_all_other_numbers_are_refused(self):
        others = [n for n in range(-40, 200) if n not in PRIMES]
        others += [n for n in NUMBERS if n not in PRIMES]
        for n in others:
            with self.assertRaises(NoPrime):
                prime_of(n)

    def test_after_a_refusal_a_prime_is_told(self):
        for n in (0, 1, 2, 4, 9, 13, -3, -11, 33):
            self.assertRaises(NoPrime, prime_of, n)
            self.assertEqual([prime_of(p) for p in PRIMES], list(PRIMES))


class TestRest(unittest.TestCase):
    def test_known_rests(self):
        for p, n, told in (
            (3, -1, 2), (3, 3, 0), (5, -7, 3), (5, 12, 2), (7, -49, 0), (7, 50, 1),
            (11, 10, 10), (11, 11, 0), (11, -1, 10), (11, 10 ** 59, 10), (3, 10 ** 59, 1), (3, -10 ** 59, 2),
        ):
            self.assertEqual(rest(p, n), told)

    def test_rests_of_numbers_of_any_size_and_sign(self):
        for p in PRIMES:
            for n in NUMBERS:
                told = rest(p, n)
                self.assertIs(type(told), int)
                self.assertEqual(told, rest_by_figures(p, n), (p, n))
                self.assertEqual(rest(p, n), told)

    def test_a_multiple_of_p_added_changes_no_rest(self):
        for p in PRIMES:
            for n in NUMBERS:
                for many in (1, -1, 10 ** 40, -10 ** 40):
                    self.assertEqual(rest(p, n + many * p), rest(p, n))

    def test_rests_stay_as_they_are(self):
        for p in PRIMES:
            self.assertEqual([rest(p, n) for n in range(p)], list(range(p)))


class TestTurnedOver(unittest.TestCase):
    def test_multiplied_it_gives_one(self):
        for p in PRIMES:
            for n in NUMBERS:
                if rest_by_figures(p, n) == 0:
                    continue
                told = turned_over(p, n)
                self.assertIs(type(told), int)
                self.assertIn(told, range(1, p))
                self.assertEqual(rest_by_figures(p, n * told), 1, (p, n))
                self.assertEqual(turned_over(p, n), told)

    def test_known_ones(self):
        self.assertEqual([turned_over(3, n) for n in (1, 2)], [1, 2])
        self.assertEqual([turned_over(5, n) for n in (1, 2, 3, 4)], [1, 3, 2, 4])
        self.assertEqual([turned_over(7, n) for n in (1, 2, 3, 4, 5, 6)], [1, 4, 5, 2, 3, 6])
        self.assertEqual([turned_over(11, n) for n in range(1, 11)], [1, 6, 4, 3, 9, 2, 8, 7, 5, 10])

    def test_of_the_rest_nought_it_is_refused(self):
        for p in PRIMES:
            for n in (0, p, -p, 2 * p, p * 10 ** 58, -p * 10 ** 58, p * (10 ** 58 + 1)):
                with self.assertRaises(NoOver):
                    turned_over(p, n)

    def test_behind_a_refusal_it_is_told(self):
        for p in PRIMES:
            for n in range(1, p):
                told = turned_over(p, n)
                self.assertRaises(NoOver, turned_over, p, 0)
                self.assertEqual(turned_over(p, n), told)
                self.assertRaises(NoOver, turned_over, p, p)
                self.assertEqual(turned_over(p, n - p), told)


class TestPower(unittest.TestCase):
    def test_small_powers_are_products(self):
        for p in PRIMES:
            for a in range(p):
                product = 1
                for n in range(60):
                    self.assertEqual(power(p, a, n), product, (p, a, n))
                    product = product * a % p

    def test_the_power_for_n_nought_is_one(self):
        for p in PRIMES:
            for a in range(p):
                self.assertEqual(power(p, a, 0), 1)

    def test_powers_of_nought_are_nought(self):
        for p in PRIMES:
            for n in NATURAL:
                self.assertEqual(power(p, 0, n), 1 if n == 0 else 0)

    def test_great_powers(self):
        for p in PRIMES:
            for a in range(1, p):
                for n in GREAT:
                    for near in (n - 1, n - 2, n - 3, n):
                        told = power(p, a, near)
                        self.assertIs(type(told), int)
                        self.assertEqual(told, pow(a, near, p), (p, a, near))
                        # p - 1 factors other than 0 give 1, so only this many are left.
                        self.assertEqual(told, a ** (near % (p - 1)) % p)


class TestRoot(unittest.TestCase):
    def test_the_least_rest_or_none(self):
        for p in PRIMES:
            for a in range(p):
                fitting = [n for n in range(p) if n * n % p == a]
                self.assertEqual(root(p, a), fitting[0] if fitting else None, (p, a))

    def test_all_roots_written_out(self):
        self.assertEqual([root(3, a) for a in range(3)], [0, 1, None])
        self.assertEqual([root(5, a) for a in range(5)], [0, 1, None, None, 2])
        self.assertEqual([root(7, a) for a in range(7)], [0, 1, 3, None, 2, None, None])
        self.assertEqual(
            [root(11, a) for a in range(11)],
            [0, 1, None, 5, 2, 4, None, None, None, 3, None],
        )


if __name__ == "__main__":
    unittest.main()
