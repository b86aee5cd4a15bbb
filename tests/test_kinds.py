import collections
import unittest

from samples import (
    PRIMES, all_curves, all_triples, curve_points, curves_of_all_sorts, form, is_table, is_triple, leads, led_by,
    lies, multiplied, three_on_a_line,
)

from ovalfield.curves import moved, plain_curve
from ovalfield.kinds import kind


class TestKind(unittest.TestCase):
    def test_written_out(self):
        for p in PRIMES:
            self.assertEqual(kind(p, (1, 0, 0, 0, 0, 0)), ("twice", (1, 0, 0)))
            self.assertEqual(kind(p, (0, 0, 0, 1, 0, 0)), ("lines", (0, 1, 0), (1, 0, 0)))
            self.assertEqual(kind(p, (0, 0, 0, 0, 0, 1)), ("lines", (0, 0, 1), (0, 1, 0)))
            self.assertEqual(kind(p, (1, p - 1, 0, 0, 0, 0)), ("lines", (1, 1, 0), (1, p - 1, 0)))
            self.assertEqual(kind(p, plain_curve(p))[0], "whole")
        for p in (3, 7, 11):
            self.assertEqual(kind(p, (1, 1, 0, 0, 0, 0)), ("point", (0, 0, 1)))
            self.assertEqual(kind(p, (0, 1, 1, 0, 0, 0)), ("point", (1, 0, 0)))
        self.assertEqual(kind(5, (1, 1, 0, 0, 0, 0)), ("lines", (1, 2, 0), (1, 3, 0)))
        self.assertEqual(kind(5, (1, 2, 0, 0, 0, 0)), ("point", (0, 0, 1)))

    def test_every_curve_by_three_and_five(self):
        for p in (3, 5):
            found = collections.Counter(self.holds(p, curve) for curve in all_curves(p))
            lines = p * p + p + 1
            self.assertEqual(found, {
                "twice": lines,
                "lines": lines * (lines - 1) // 2,
                "point": lines * (p * p - p) // 2,
                "whole": p ** 5 - p ** 2,
            })

    def test_curves_of_all_sorts(self):
        for p in PRIMES:
            for sort, curve in curves_of_all_sorts(p, 80):
                self.assertEqual(self.holds(p, curve), sort)

    def test_every_line_twice_and_two_lines(self):
        for p in PRIMES:
            lines = all_triples(p)
            for place, line in enumerate(lines):
                self.assertEqual(kind(p, form(p, multiplied(line, line))), ("twice", line))
                for other in lines[place + 1:: 1 if p < 7 else 11]:
                    self.assertEqual(kind(p, form(p, multiplied(other, line))), ("lines", line, other))

    def test_a_whole_curve_has_no_three_on_a_line(self):
        for p in PRIMES:
            for sort, curve in curves_of_all_sorts(p, 20):
                if kind(p, curve)[0] == "whole":
                    self.assertIsNone(three_on_a_line(p, curve_points(p, curve)))
                    self.assertEqual(len(curve_points(p, curve)), p + 1)

    def holds(self, p, curve):
        told = kind(p, curve)
        self.assertIs(type(told), tuple)
        self.assertEqual(kind(p, curve), told)
        points = curve_points(p, curve)
        if told[0] == "point":
            self.assertEqual(told, ("point", points[0]))
            self.assertEqual(len(points), 1)
        elif told[0] == "twice":
            line = told[1]
            self.assertEqual(told, ("twice", line))
            self.assertTrue(is_triple(p, line))
            self.assertEqual(form(p, multiplied(line, line)), curve)
        elif told[0] == "lines":
            word, one, other = told
            self.assertLess(one, other)
            self.assertTrue(is_triple(p, one) and is_triple(p, other))
            on_one = [point for point in all_triples(p) if lies(p, point, one) or lies(p, point, other)]
            self.assertEqual(points, on_one)
        else:
            table = told[1]
            self.assertEqual(told, ("whole", table))
            self.assertTrue(is_table(p, table))
            self.assertEqual(moved(p, plain_curve(p), table), curve)
            self.assertTrue(leads(p, table, plain_curve(p), curve))
            self.assertEqual(sorted(led_by(p, table, point) for point in curve_points(p, plain_curve(p))), points)
        return told[0]


if __name__ == "__main__":
    unittest.main()
