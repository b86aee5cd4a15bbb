import itertools
import unittest

from samples import (
    EVEN, NUMBERS, PRIMES, Draws, all_curves, all_triples, curve_points, curves_of_all_sorts, form, is_curve,
    led_by, measured, sums, twice_rows, value_by,
)

from ovalfield.curves import curve_of, is_whole, moved, plain_curve, points_of, twice_table, value, valuer
from ovalfield.errors import NoCurve
from ovalfield.tables import after, table_back


def any_rows(p):
    """All tuples of three rests, that of three times 0 too."""
    return list(itertools.product(range(p), repeat=3))


class TestCurveOf(unittest.TestCase):
    def test_written_out(self):
        self.assertEqual(curve_of(7, [0, 2, 0, 0, -2, 14]), (0, 1, 0, 0, 6, 0))
        self.assertEqual(curve_of(11, (3, 6, 9, 0, -3, 33)), (1, 2, 3, 0, 10, 0))
        self.assertEqual(curve_of(3, (0, 0, 0, 0, 0, 2)), (0, 0, 0, 0, 0, 1))

    def test_numbers_of_any_sign_and_size(self):
        for p in PRIMES:
            draws = Draws(p)
            for turn in range(1000):
                numbers = [draws.chosen(NUMBERS) for place in range(6)]
                if not any(n % p for n in numbers):
                    self.assertRaises(NoCurve, curve_of, p, numbers)
                    continue
                kept = list(numbers)
                told = curve_of(p, numbers)
                self.assertTrue(is_curve(p, told))
                self.assertEqual(told, form(p, numbers))
                self.assertEqual(numbers, kept)
                self.assertEqual(curve_of(p, tuple(numbers)), told)

    def test_changed_later_it_stays(self):
        for p in PRIMES:
            numbers = [0, 1, 0, 0, 2, 0]
            told = curve_of(p, numbers)
            numbers[0] = 1
            self.assertEqual(told, (0, 1, 0, 0, 2, 0))

    def test_all_noughts_are_refused(self):
        for p in PRIMES:
            for n in (0, p, -p, p * 10 ** 58, -p * 10 ** 58):
                self.assertRaises(NoCurve, curve_of, p, [n] * 6)
                self.assertRaises(NoCurve, curve_of, p, (0, 0, n, 0, -n, 0))
                for place in range(6):
                    self.assertEqual(curve_of(p, [n] * place + [1] + [n] * (5 - place)),
                                     (0,) * place + (1,) + (0,) * (5 - place))


class TestPlainCurve(unittest.TestCase):
    def test_told(self):
        for p in PRIMES:
            self.assertEqual(plain_curve(p), (0, 1, 0, 0, p - 1, 0))
            self.assertEqual(points_of(p, plain_curve(p)), sorted([(0, 0, 1)] + [(1, t, t * t % p) for t in range(p)]))
            self.assertIs(is_whole(p, plain_curve(p)), True)


class TestValue(unittest.TestCase):
    def test_written_out(self):
        self.assertEqual(value(11, (1, 2, 3, 4, 5, 6), (1, 1, 1)), 10)
        self.assertEqual(value(7, (1, 2, 3, 4, 5, 6), (1, 0, 2)), 2)
        self.assertEqual(value(5, (0, 0, 0, 0, 0, 1), (3, 4, 3)), 2)

    def test_at_any_three_rests(self):
        for p in PRIMES:
            for sort, curve in curves_of_all_sorts(p, 5):
                told = valuer(p, curve)
                for row in any_rows(p):
                    expected = value_by(p, curve, row)
                    for found in (value(p, curve, row), told(row)):
                        self.assertEqual(found, expected, (p, curve, row))
                        self.assertIs(type(found), int)
                self.assertEqual(value(p, curve, (0, 0, 0)), 0)
                self.assertEqual(told((0, 0, 0)), 0)

    def test_each_of_the_six_counts(self):
        for p in PRIMES:
            for place, at in enumerate(((2, 0, 0), (0, 2, 0), (0, 0, 2), (1, 2, 0), (1, 0, 2), (0, 1, 2))):
                curve = (0,) * place + (1,) + (0,) * (5 - place)
                self.assertEqual(value(p, curve, at), (4 if place < 3 else 2) % p)

    def test_two_valuers_by_turns(self):
        for p in PRIMES:
            curves = [curve for sort, curve in curves_of_all_sorts(p, 3)]
            asked = [valuer(p, curve) for curve in curves]
            for row in any_rows(p)[:200]:
                for curve, told in zip(curves, asked):
                    self.assertEqual(told(row), value_by(p, curve, row))
        three, seven = valuer(3, (1, 1, 1, 0, 0, 0)), valuer(7, (1, 1, 1, 0, 0, 0))
        self.assertEqual([three((1, 1, 2)), seven((1, 1, 2)), three((1, 1, 2))], [0, 6, 0])


class TestPointsOf(unittest.TestCase):
    def test_just_those_with_the_value_nought(self):
        for p in PRIMES:
            counts = {"point": 1, "twice": p + 1, "lines": 2 * p + 1, "whole": p + 1}
            for sort, curve in curves_of_all_sorts(p, 40):
                told = points_of(p, curve)
                self.assertIs(type(told), list)
                self.assertEqual(told, curve_points(p, curve))
                self.assertEqual(told, sorted(told))
                self.assertEqual(len(told), counts[sort])

    def test_no_curve_is_without_a_point(self):
        for curve in all_curves(3):
            self.assertEqual(points_of(3, curve), curve_points(3, curve))
            self.assertTrue(points_of(3, curve))
        for p in (5, 7, 11):
            draws = Draws(p)
            for turn in range(1500):
                curve = form(p, draws.row(p, 6))
                self.assertTrue(curve is None or points_of(p, curve))

    def test_a_list_that_the_asker_changed(self):
        for p in PRIMES:
            for sort, curve in curves_of_all_sorts(p, 3):
                told = points_of(p, curve)
                kept = list(told)
                told[0] = None
                told.append((1, 1, 1))
                self.assertEqual(points_of(p, curve), kept)


class TestMoved(unittest.TestCase):
    def test_written_out(self):
        # x, y, z led to y, z, x: so the value of x * x comes to stand by z * z.
        turn = ((0, 1, 0), (0, 0, 1), (1, 0, 0))
        for p in PRIMES:
            self.assertEqual(moved(p, (1, 0, 0, 0, 0, 0), turn), (0, 0, 1, 0, 0, 0))
            self.assertEqual(moved(p, (0, 0, 0, 1, 0, 0), turn), (0, 0, 0, 0, 1, 0))
            # x led to x + y: so x is x - y of the led ones.
            self.assertEqual(moved(p, (1, 0, 0, 0, 0, 0), ((1, 1, 0), (0, 1, 0), (0, 0, 1))),
                             (1, 1, 0, p - 2, 0, 0))

    def test_points_and_values(self):
        for p in PRIMES:
            draws = Draws(p)
            for sort, curve in curves_of_all_sorts(p, 6):
                table = draws.table(p)
                told = moved(p, curve, table)
                self.assertTrue(is_curve(p, told))
                goals = sorted(led_by(p, table, point) for point in curve_points(p, curve))
                self.assertEqual(curve_points(p, told), goals)
                factors = set()
                for row in any_rows(p):
                    ahead, behind = value_by(p, curve, row), value_by(p, told, sums(p, table, row))
                    self.assertEqual(ahead == 0, behind == 0)
                    if ahead:
                        factors.add(behind * pow(ahead, p - 2, p) % p)
                self.assertEqual(len(factors), 1, (p, curve, table))

    def test_by_the_table_back_it_is_the_curve(self):
        for p in PRIMES:
            draws = Draws(10 + p)
            for sort, curve in curves_of_all_sorts(p, 40):
                table = draws.table(p)
                self.assertEqual(moved(p, moved(p, curve, table), table_back(p, table)), curve)
                self.assertEqual(moved(p, curve, EVEN), curve)

    def test_by_one_and_then_another(self):
        for p in PRIMES:
            draws = Draws(20 + p)
            for sort, curve in curves_of_all_sorts(p, 40):
                one, other = draws.table(p), draws.table(p)
                self.assertEqual(moved(p, moved(p, curve, one), other), moved(p, curve, after(p, other, one)))


class TestTwiceTable(unittest.TestCase):
    def test_written_out(self):
        self.assertEqual(twice_table(11, (1, 2, 3, 4, 5, 6)), ((2, 4, 5), (4, 4, 6), (5, 6, 6)))
        self.assertEqual(twice_table(5, (0, 1, 0, 0, 4, 0)), ((0, 0, 4), (0, 2, 0), (4, 0, 0)))
        self.assertEqual(twice_table(3, (1, 2, 2, 0, 0, 1)), ((2, 0, 0), (0, 1, 1), (0, 1, 1)))

    def test_by_its_rows_and_whole_where_the_measure_is_not_nought(self):
        for p in PRIMES:
            curves = [curve for sort, curve in curves_of_all_sorts(p, 60)]
            if p == 3:
                curves = all_curves(3)
            for curve in curves:
                told = twice_table(p, curve)
                self.assertEqual(told, twice_rows(p, curve))
                self.assertTrue(all(type(n) is int and 0 <= n < p for row in told for n in row))
                self.assertIs(is_whole(p, curve), measured(p, twice_rows(p, curve)) != 0)

    def test_whole_by_its_sort(self):
        for p in PRIMES:
            for sort, curve in curves_of_all_sorts(p, 60):
                self.assertIs(is_whole(p, curve), sort == "whole")

    def test_so_many_are_whole(self):
        self.assertEqual(len([curve for curve in all_curves(3) if is_whole(3, curve)]), 3 ** 5 - 3 ** 2)
        self.assertEqual(len([curve for curve in all_curves(5) if is_whole(5, curve)]), 5 ** 5 - 5 ** 2)
        self.assertEqual(len(all_triples(3)), 13)


if __name__ == "__main__":
    unittest.main()
