import itertools
import unittest

from samples import (
    PRIMES, Draws, all_curves, all_triples, curve_points, is_curve, lies, measured, rank, second_rank, three_on_a_line,
    twice_rows, value_by,
)

from ovalfield.errors import Alike, NoCount, OnLine
from ovalfield.through import curve_through


def four_on_a_line(p, points):
    for four in itertools.combinations(points, 4):
        if all(measured(p, three) == 0 for three in itertools.combinations(four, 3)):
            return four
    return None


class TestCurveThrough(unittest.TestCase):
    def test_written_out(self):
        for p in (5, 7, 11):
            points = [(0, 0, 1)] + [(1, t, t * t % p) for t in range(4)]
            self.assertEqual(curve_through(p, points), (0, 1, 0, 0, p - 1, 0))
        for p in PRIMES:
            points = [(1, 0, 0), (0, 1, 0), (1, 1, 0), (0, 0, 1), (1, 0, 1)]
            # The lines z = 0 and y = 0.
            self.assertEqual(curve_through(p, points), (0, 0, 0, 0, 0, 1))

    def test_any_five_points(self):
        for p in PRIMES:
            draws = Draws(p)
            for turn in range(400):
                self.holds(p, draws.unlike(p, 5))

    def test_all_five_points_by_three(self):
        curves = [(curve, set(curve_points(3, curve))) for curve in all_curves(3)]
        for points in itertools.combinations(all_triples(3), 5):
            if four_on_a_line(3, points) is None:
                through = [curve for curve, held in curves if held.issuperset(points)]
                self.assertEqual([curve_through(3, list(points))], through)

    def test_points_of_a_whole_curve_and_with_three_on_a_line(self):
        for p in PRIMES:
            draws = Draws(10 + p)
            for turn in range(120):
                self.holds(p, draws.arc(p, 5) if p > 3 else draws.arc(p, 4) + draws.unlike(p, 1))
                line = draws.chosen(all_triples(p))
                on_it = draws.mixed([point for point in all_triples(p) if lies(p, point, line)])
                off_it = draws.mixed([point for point in all_triples(p) if not lies(p, point, line)])
                self.holds(p, draws.mixed(on_it[:3] + off_it[:2]))
                self.holds(p, draws.mixed(on_it[:4] + off_it[:1]))
                if p > 3:
                    self.holds(p, on_it[:5])

    def test_four_on_a_line_have_the_least_places(self):
        line, off = [(1, 0, 0), (0, 1, 0), (1, 1, 0), (1, 2, 0)], (0, 0, 1)
        for p in PRIMES:
            for place in range(5):
                points = line[:place] + [off] + line[place:]
                self.refuses(p, points, OnLine, tuple(line))
        for p in (5, 7, 11):
            self.refuses(p, [(1, 3, 0)] + line, OnLine, ((1, 3, 0),) + tuple(line[:3]))

    def test_one_stands_there_twice(self):
        a, b, c, d, e = (1, 0, 0), (0, 1, 0), (0, 0, 1), (1, 1, 1), (1, 1, 0)
        for p in PRIMES:
            self.refuses(p, [a, b, c, d, a], Alike, a)
            self.refuses(p, [a, b, b, a, c], Alike, b)
            self.refuses(p, [a, b, c, b, a], Alike, b)
            self.refuses(p, [a, a, b, b, b], Alike, a)
            self.refuses(p, [a, b, e, (1, 2, 0), e], Alike, e)
            self.refuses(p, [d] * 5, Alike, d)

    def test_not_five(self):
        for p in PRIMES:
            draws = Draws(p)
            for count in (0, 1, 2, 3, 4, 6, 7, 13):
                self.assertRaises(NoCount, curve_through, p, draws.unlike(p, count))
                self.assertRaises(NoCount, curve_through, p, [(1, 0, 0)] * count)
                self.assertRaises(NoCount, curve_through, p, ([(1, 0, 0), (0, 1, 0), (1, 1, 0), (1, 2, 0)] * 4)[:count])

    def holds(self, p, points):
        if len(set(points)) < 5:
            return
        four = four_on_a_line(p, points)
        if four is not None:
            self.refuses(p, points, OnLine, four)
            return
        kept = list(points)
        told = curve_through(p, points)
        self.assertTrue(is_curve(p, told))
        self.assertEqual([value_by(p, told, point) for point in points], [0] * 5)
        # Five rows of full rank leave just one curve.
        self.assertEqual(rank(p, [second_rank(point) for point in points]), 5)
        self.assertEqual(measured(p, twice_rows(p, told)) != 0, three_on_a_line(p, points) is None)
        self.assertEqual(points, kept)
        self.assertEqual(curve_through(p, points[::-1]), told)

    def refuses(self, p, points, refusal, field):
        kept = list(points)
        with self.assertRaises(refusal) as caught:
            curve_through(p, points)
        found = caught.exception.points if refusal is OnLine else caught.exception.triple
        self.assertEqual(found, field)
        self.assertIs(type(found), tuple)
        self.assertEqual(points, kept)


if __name__ == "__main__":
    unittest.main()
