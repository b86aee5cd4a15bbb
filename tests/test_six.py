import itertools
import unittest

from samples import (
    PRIMES, Draws, all_triples, curve_points, is_curve, is_triple, joined, lies, measured, rank, second_rank,
    three_on_a_line, value_by, whole_curves,
)

from ovalfield.errors import NoCount, OnLine
from ovalfield.six import meets_of, six_told


def meets_by(p, points):
    """The meets in the order of the document's words, sides found by trying."""
    a, b, c, d, e, f = points
    return tuple(
        joined(p, joined(p, one, other), joined(p, third, last))
        for one, other, third, last in ((a, b, d, e), (b, c, e, f), (c, d, f, a))
    )


class TestSix(unittest.TestCase):
    def test_written_out(self):
        # On x z = y y: t = 0, 1, 2, 3, 4 and the point without t.
        points = [(1, 0, 0), (1, 1, 1), (1, 2, 4), (1, 3, 2), (1, 4, 2), (0, 0, 1)]
        meets = ((1, 2, 2), (1, 4, 3), (1, 0, 1))
        self.assertEqual(meets_of(7, points), meets)
        self.assertEqual(six_told(7, points), ("one", (0, 1, 0, 0, 6, 0), meets, (1, 4, 6)))
        self.assertEqual(six_told(7, points[:5] + [(1, 1, 0)])[0], "apart")

    def test_points_of_a_whole_curve(self):
        for p in (5, 7, 11):
            draws = Draws(p)
            for curve in whole_curves(p, 25):
                for turn in range(3):
                    points = draws.mixed(curve_points(p, curve))[:6]
                    self.assertEqual(self.holds(p, points), "one")
                    self.assertEqual(six_told(p, points)[1], curve)

    def test_any_six_without_three_on_a_line(self):
        found = {5: set(), 7: set(), 11: set()}
        for p in found:
            draws = Draws(20 + p)
            for turn in range(60):
                points = draws.arc(p, 6)
                if len(points) == 6:
                    found[p].add(self.holds(p, points))
        # By 5 such six points are always those of a curve.
        self.assertEqual(found, {5: {"one"}, 7: {"one", "apart"}, 11: {"one", "apart"}})

    def test_any_six_points(self):
        for p in PRIMES:
            draws = Draws(40 + p)
            for turn in range(150):
                points = [draws.chosen(all_triples(p)) for place in range(6)]
                three = three_on_a_line(p, points)
                if three is None:
                    self.holds(p, points)
                else:
                    self.refuses(p, points, three)

    def test_three_on_a_line_are_refused(self):
        arc = [(1, 0, 0), (1, 1, 1), (1, 2, 4), (1, 3, 2), (1, 4, 2), (0, 0, 1)]
        self.refuses(7, arc[:5] + [arc[0]], (arc[0], arc[1], arc[0]))
        self.refuses(7, arc[:5] + [(0, 1, 1)], (arc[0], arc[1], (0, 1, 1)))
        self.refuses(7, [(0, 1, 1)] + arc[:5], ((0, 1, 1), arc[0], arc[1]))
        draws = Draws(3)
        for turn in range(100):
            points = draws.unlike(3, 6)
            self.refuses(3, points, three_on_a_line(3, points))

    def test_not_six(self):
        for p in PRIMES:
            draws = Draws(p)
            for count in (0, 1, 2, 3, 4, 5, 7, 12):
                for points in (draws.unlike(p, count), draws.arc(p, count)[:5], [(1, 1, 1)] * count):
                    self.assertRaises(NoCount, meets_of, p, points)
                    self.assertRaises(NoCount, six_told, p, points)

    def holds(self, p, points):
        kept = list(points)
        meets = meets_of(p, points)
        self.assertIs(type(meets), tuple)
        self.assertEqual(meets, meets_by(p, points))
        self.assertEqual(len(set(meets)), 3)
        told = six_told(p, points)
        self.assertIs(type(told), tuple)
        on_one = rank(p, [second_rank(point) for point in points]) == 5
        self.assertEqual(on_one, measured(p, meets) == 0)
        if on_one:
            word, curve, same, line = told
            self.assertEqual((word, same), ("one", meets))
            self.assertTrue(is_curve(p, curve))
            self.assertEqual([value_by(p, curve, point) for point in points], [0] * 6)
            self.assertTrue(is_triple(p, line))
            self.assertTrue(all(lies(p, point, line) for point in meets))
        else:
            self.assertEqual(told, ("apart", meets))
        self.assertEqual(points, kept)
        return told[0]

    def refuses(self, p, points, three):
        kept = list(points)
        for ask in (meets_of, six_told):
            with self.assertRaises(OnLine) as caught:
                ask(p, points)
            self.assertEqual(caught.exception.points, tuple(three))
            self.assertIs(type(caught.exception.points), tuple)
        self.assertEqual(points, kept)

    def test_all_orders_of_six(self):
        points = [(1, 0, 0), (1, 1, 1), (1, 2, 4), (1, 3, 2), (1, 4, 2), (0, 0, 1)]
        for order in list(itertools.permutations(points))[::17]:
            self.assertEqual(self.holds(7, list(order)), "one")
            self.assertEqual(self.holds(7, [(1, 1, 0) if point == (0, 0, 1) else point for point in order]), "apart")


if __name__ == "__main__":
    unittest.main()
