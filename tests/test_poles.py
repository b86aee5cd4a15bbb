import collections
import unittest

from samples import (
    PRIMES, all_triples, curve_points, curves_of_all_sorts, form, is_triple, lies, sums, twice_rows, whole_curves,
)

from ovalfield.errors import NotWhole
from ovalfield.poles import met_by, polar, pole, side, tangents


def touching(p, curve):
    """The tangents by trying: the lines with just one point of the curve."""
    points = curve_points(p, curve)
    return [line for line in all_triples(p) if len([point for point in points if lies(p, point, line)]) == 1]


class TestPolarAndPole(unittest.TestCase):
    def test_written_out(self):
        for p in PRIMES:
            plain = (0, 1, 0, 0, p - 1, 0)
            self.assertEqual(polar(p, plain, (1, 0, 0)), (0, 0, 1))
            self.assertEqual(polar(p, plain, (0, 1, 0)), (0, 1, 0))
            self.assertEqual(polar(p, plain, (1, 1, 1)), (1, p - 2, 1))
            self.assertEqual(pole(p, plain, (1, p - 2, 1)), (1, 1, 1))
            self.assertEqual(pole(p, plain, (0, 1, 0)), (0, 1, 0))

    def test_by_the_rows_of_the_twice_table(self):
        for p in PRIMES:
            for curve in whole_curves(p, 8):
                rows = twice_rows(p, curve)
                polars = [polar(p, curve, point) for point in all_triples(p)]
                self.assertEqual(polars, [form(p, sums(p, rows, point)) for point in all_triples(p)])
                self.assertEqual(sorted(polars), all_triples(p))
                self.assertTrue(all(is_triple(p, line) for line in polars))

    def test_each_is_the_other_s_way_back(self):
        for p in PRIMES:
            for curve in whole_curves(p, 8):
                for triple in all_triples(p):
                    self.assertEqual(pole(p, curve, polar(p, curve, triple)), triple)
                    self.assertEqual(polar(p, curve, pole(p, curve, triple)), triple)
                    self.assertTrue(is_triple(p, pole(p, curve, triple)))

    def test_a_point_lies_on_another_s_polar_just_where_that_one_lies_on_its(self):
        for p in PRIMES:
            for curve in whole_curves(p, 3):
                polars = {point: polar(p, curve, point) for point in all_triples(p)}
                for one in polars:
                    for other in polars:
                        self.assertEqual(lies(p, one, polars[other]), lies(p, other, polars[one]))

    def test_at_a_point_of_the_curve_it_is_the_tangent(self):
        for p in PRIMES:
            for curve in whole_curves(p, 6):
                lines = touching(p, curve)
                for point in curve_points(p, curve):
                    self.assertEqual([polar(p, curve, point)], [line for line in lines if lies(p, point, line)])


class TestSideAndTangents(unittest.TestCase):
    def test_written_out(self):
        for p in PRIMES:
            plain = (0, 1, 0, 0, p - 1, 0)
            self.assertEqual(side(p, plain, (1, 1, 1)), "on")
            self.assertEqual(side(p, plain, (0, 1, 0)), "outer")
            self.assertEqual(tangents(p, plain, (0, 1, 0)), [(0, 0, 1), (1, 0, 0)])
            self.assertEqual(tangents(p, plain, (1, 1, 1)), [(1, p - 2, 1)])
        self.assertEqual(side(3, (0, 1, 0, 0, 2, 0), (1, 0, 1)), "inner")
        self.assertEqual(tangents(3, (0, 1, 0, 0, 2, 0), (1, 0, 1)), [])

    def test_at_all_points(self):
        words = {0: "inner", 1: "on", 2: "outer"}
        for p in PRIMES:
            for curve in whole_curves(p, 4):
                lines, points = touching(p, curve), curve_points(p, curve)
                self.assertEqual(len(lines), p + 1)
                found = collections.Counter()
                for point in all_triples(p):
                    told = tangents(p, curve, point)
                    self.assertIs(type(told), list)
                    self.assertEqual(told, [line for line in lines if lies(p, point, line)])
                    self.assertEqual(side(p, curve, point), words[len(told)])
                    self.assertEqual(side(p, curve, point) == "on", point in points)
                    found[words[len(told)]] += 1
                self.assertEqual(found, {"on": p + 1, "outer": p * (p + 1) // 2, "inner": p * (p - 1) // 2})


class TestMetBy(unittest.TestCase):
    def test_written_out(self):
        for p in PRIMES:
            plain = (0, 1, 0, 0, p - 1, 0)
            self.assertEqual(met_by(p, plain, (0, 1, 0)), [(0, 0, 1), (1, 0, 0)])
            self.assertEqual(met_by(p, plain, (1, 0, 0)), [(0, 0, 1)])

    def test_by_all_lines(self):
        for p in PRIMES:
            for curve in whole_curves(p, 4):
                points = curve_points(p, curve)
                found = collections.Counter()
                for line in all_triples(p):
                    told = met_by(p, curve, line)
                    self.assertIs(type(told), list)
                    self.assertEqual(told, [point for point in points if lies(p, point, line)])
                    found[len(told)] += 1
                self.assertEqual(found, {1: p + 1, 2: p * (p + 1) // 2, 0: p * (p - 1) // 2})


class TestRefusedAndAskedAgain(unittest.TestCase):
    def test_not_whole(self):
        for p in PRIMES:
            sorts = set()
            for sort, curve in curves_of_all_sorts(p, 6):
                if sort == "whole":
                    continue
                sorts.add(sort)
                for triple in all_triples(p)[::9] + curve_points(p, curve)[:2]:
                    for ask in (polar, pole, side, tangents, met_by):
                        self.assertRaises(NotWhole, ask, p, curve, triple)
            self.assertEqual(sorts, {"point", "twice", "lines"})

    def test_a_list_that_the_asker_changed(self):
        for p in PRIMES:
            plain = (0, 1, 0, 0, p - 1, 0)
            for ask in (tangents, met_by):
                told = ask(p, plain, (0, 1, 0))
                kept = list(told)
                told.reverse()
                told.append(None)
                self.assertEqual(ask(p, plain, (0, 1, 0)), kept)
                ask(p, plain, (0, 1, 0)).clear()
                self.assertEqual(ask(p, plain, (0, 1, 0)), kept)


if __name__ == "__main__":
    unittest.main()
