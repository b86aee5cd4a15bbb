import itertools
import unittest

from samples import (
    PRIMES, SHUT, Draws, all_triples, curve_points, fits, is_curve, measured, three_on_a_line, twice_rows, whole_curves,
)

from ovalfield.errors import Alike, OnLine, TooMany
from ovalfield.sets import further, grown, look

# All that is asked of sets without three on a line alone.
GROWING = (grown, further, lambda p, points: further(p, points, 0), lambda p, points: further(p, points, 2))


def looked_at(p, points):
    """What is to be told of a set, but for the curve, by walking all points and places."""
    three = three_on_a_line(p, points)
    if three is not None:
        return ("line", three)
    if len(points) == p + 1:
        return ("curve",)
    if fits(p, points):
        return ("more", fits(p, points)[0])
    rows = []
    for point in all_triples(p):
        if point not in points:
            pairs = itertools.combinations(points, 2)
            rows.append((point,) + next(pair for pair in pairs if measured(p, pair + (point,)) == 0))
    return ("ends", rows)


def arcs(p, many):
    """Sets without three on a line, of all sizes that come."""
    draws = Draws(70 + p)
    return [draws.arc(p, turn % (p + 2)) for turn in range(many)]


def shut_sets(p):
    return [points for points in arcs(p, 60) if len(points) <= p and not fits(p, points)] + [SHUT[p]]


class TestLook(unittest.TestCase):
    def test_written_out(self):
        for p in PRIMES:
            self.assertEqual(look(p, []), ("more", (0, 0, 1)))
            self.assertEqual(look(p, [(0, 0, 1)]), ("more", (0, 1, 0)))
            self.assertEqual(look(p, [(1, 2, 2)]), ("more", (0, 0, 1)))
            self.assertEqual(look(p, [(0, 0, 1), (0, 1, 0)]), ("more", (1, 0, 0)))
            self.assertEqual(look(p, [(0, 0, 1), (0, 1, 0), (0, 1, 1)]), ("line", ((0, 0, 1), (0, 1, 0), (0, 1, 1))))
            plain = [(1, t, t * t % p) for t in range(p)]
            self.assertEqual(look(p, plain), ("more", (0, 0, 1)))
            self.assertEqual(look(p, plain + [(0, 0, 1)]), ("curve", (0, 1, 0, 0, p - 1, 0)))

    def test_of_one_point(self):
        for p in PRIMES:
            for point in all_triples(p):
                self.assertEqual(look(p, [point]), ("more", (0, 1, 0) if point == (0, 0, 1) else (0, 0, 1)))

    def test_any_points(self):
        for p in PRIMES:
            draws = Draws(p)
            for count in range(min(31, p * p + p + 1)):
                for turn in range(6):
                    told = self.holds(p, draws.unlike(p, count))
                    if count > p + 1:
                        self.assertEqual(told, "line")
                    if count < 2:
                        self.assertEqual(told, "more")

    def test_without_three_on_a_line(self):
        for p in PRIMES:
            found = {self.holds(p, points) for points in arcs(p, 60)}
            self.assertLessEqual({"more", "ends"} if p > 5 else {"more", "curve"}, found)

    def test_with_three_on_a_line_in_any_place(self):
        for p in PRIMES:
            draws = Draws(3 * p)
            for points in arcs(p, 30):
                beside = [point for point in all_triples(p) if point not in points]
                self.holds(p, draws.mixed(points + [draws.chosen(beside)]))

    def test_points_of_whole_curves_in_any_order(self):
        for p in PRIMES:
            draws = Draws(5 * p)
            for curve in whole_curves(p, 40):
                points = draws.mixed(curve_points(p, curve))
                self.assertEqual(look(p, points), ("curve", curve))
                self.assertEqual(self.holds(p, points[:-1]), "more")
                beside = draws.chosen([point for point in all_triples(p) if point not in points])
                self.assertEqual(self.holds(p, points + [beside]), "line")
                exchanged = self.holds(p, points[:-1] + [beside])
                # By 3 another curve may have the other three points.
                self.assertIn(exchanged, ("line", "curve") if p == 3 else ("line",))

    def test_all_sets_of_four_by_three(self):
        for points in itertools.combinations(all_triples(3), 4):
            self.assertIn(self.holds(3, list(points)), ("line", "curve"))

    def test_sets_to_which_no_point_can_be_put(self):
        for p in SHUT:
            for points in shut_sets(p):
                self.assertEqual(self.holds(p, points), "ends")
                rows = look(p, points)[1]
                self.assertIs(type(rows), list)
                self.assertTrue(all(type(row) is tuple and len(row) == 3 for row in rows))
                self.assertEqual(len(rows), p * p + p + 1 - len(points))

    def test_one_stands_there_twice(self):
        a, b, c, d = (1, 0, 0), (0, 1, 0), (1, 1, 0), (0, 0, 1)
        for p in PRIMES:
            self.refuses(p, [a, a], a)
            self.refuses(p, [a, b, c, b, a], b)
            self.refuses(p, [a, b, c, d, d, a], d)
            self.refuses(p, [d, a, b, a], a)
            plain = [(0, 0, 1)] + [(1, t, t * t % p) for t in range(p)]
            self.refuses(p, plain + plain[::-1], plain[-1])

    def test_a_list_that_the_asker_changed(self):
        for p in SHUT:
            told = look(p, SHUT[p])
            kept = list(told[1])
            told[1].reverse()
            told[1].append(None)
            self.assertEqual(look(p, SHUT[p]), ("ends", kept))

    def holds(self, p, points):
        kept = list(points)
        told = look(p, points)
        self.assertIs(type(told), tuple)
        expected = looked_at(p, points)
        if expected[0] == "curve":
            word, curve = told
            self.assertEqual(word, "curve")
            self.assertTrue(is_curve(p, curve))
            self.assertNotEqual(measured(p, twice_rows(p, curve)), 0)
            self.assertEqual(curve_points(p, curve), sorted(points))
        else:
            self.assertEqual(told, expected, (p, points))
        self.assertEqual(points, kept)
        self.assertEqual(look(p, points), told)
        return told[0]

    def refuses(self, p, points, triple):
        kept = list(points)
        for ask in (look,) + GROWING:
            with self.assertRaises(Alike) as caught:
                ask(p, points)
            self.assertEqual(caught.exception.triple, triple)
            self.assertEqual(points, kept)


class TestGrown(unittest.TestCase):
    def test_written_out(self):
        self.assertEqual(grown(3, []), [(0, 0, 1), (0, 1, 0), (1, 0, 0), (1, 1, 1)])
        self.assertEqual(grown(5, [])[4:], [(1, 2, 3), (1, 3, 4)])
        self.assertEqual(grown(11, []), SHUT[11])

    def test_each_further_point_is_that_of_look(self):
        for p in PRIMES:
            for points in arcs(p, 40):
                kept = list(points)
                told = grown(p, points)
                self.assertIs(type(told), list)
                self.assertEqual(points, kept)
                self.assertIsNot(told, points)
                expected = list(points)
                while fits(p, expected):
                    expected.append(fits(p, expected)[0])
                self.assertEqual(told, expected)
                for count in range(len(points), len(told)):
                    self.assertEqual(look(p, told[:count]), ("more", told[count]))
                self.assertIn(look(p, told)[0], ("curve", "ends"))

    def test_what_can_not_be_grown_is_told_as_it_is(self):
        for p in PRIMES:
            for curve in whole_curves(p, 5):
                points = Draws(p).mixed(curve_points(p, curve))
                self.assertEqual(grown(p, points), points)
                self.assertIsNot(grown(p, points), points)
        for p in SHUT:
            for points in shut_sets(p):
                self.assertEqual(grown(p, points), points)

    def test_told_again_unchanged(self):
        for p in PRIMES:
            told = grown(p, [(1, 1, 1)])
            kept = list(told)
            told.clear()
            self.assertEqual(grown(p, [(1, 1, 1)]), kept)

    def test_three_on_a_line_are_refused(self):
        for p in PRIMES:
            draws = Draws(8 * p)
            for turn in range(60):
                points = draws.unlike(p, 3 + draws.below(9))
                three = three_on_a_line(p, points)
                if three is None:
                    continue
                kept = list(points)
                for ask in GROWING:
                    with self.assertRaises(OnLine) as caught:
                        ask(p, points)
                    self.assertEqual(caught.exception.points, three)
                    self.assertIs(type(caught.exception.points), tuple)
                self.assertEqual(points, kept)


class TestFurther(unittest.TestCase):
    def test_by_nought(self):
        for p in PRIMES:
            for points in arcs(p, p + 2):
                self.assertEqual(further(p, points, 0), [()])

    def test_by_one_and_where_the_number_is_left_out(self):
        for p in PRIMES:
            for points in arcs(p, 30):
                kept = list(points)
                expected = [(point,) for point in fits(p, points)]
                self.assertEqual(further(p, points, 1), expected)
                self.assertEqual(further(p, points), expected)
                self.assertEqual(further(p, points, many=1), expected)
                self.assertEqual(points, kept)
            self.assertEqual(len(further(p, [])), p * p + p + 1)

    def test_by_two(self):
        for p in PRIMES:
            counts = set()
            for points in arcs(p, 3 * (p + 2)):
                expected = self.pairs(p, points)
                counts.add(len(expected))
                if len(expected) > 300:
                    self.assertRaises(TooMany, further, p, points, 2)
                    continue
                told = further(p, points, 2)
                self.assertEqual(told, expected)
                self.assertTrue(all(type(row) is tuple and row[0] < row[1] for row in told))
            self.assertIn(0, counts)
            self.assertEqual(max(counts) > 300, p > 3)

    def test_the_numbers_around_three_hundred(self):
        points = [(0, 0, 1), (0, 1, 0), (1, 0, 0), (1, 1, 1)]
        self.assertEqual([len(further(3, points[:count], 2)) for count in range(5)], [78, 54, 18, 0, 0])
        # By 5 there would be 465, 375 and then 200; by 7 with three points 360, with four 70.
        self.assertRaises(TooMany, further, 5, [], 2)
        self.assertRaises(TooMany, further, 5, points[:1], 2)
        self.assertEqual([len(further(5, points[:count], 2)) for count in (2, 3, 4)], [200, 48, 3])
        self.assertRaises(TooMany, further, 7, points[:3], 2)
        self.assertEqual(len(further(7, points, 2)), 70)
        self.assertRaises(TooMany, further, 11, points + [(1, 2, 3)], 2)
        self.assertRaises(TooMany, further, 11, [], 2)

    def test_a_list_that_the_asker_changed(self):
        for p in PRIMES:
            for many in (0, 1):
                told = further(p, [(1, 1, 1)], many)
                kept = list(told)
                told.append(None)
                told[0] = None
                self.assertEqual(further(p, [(1, 1, 1)], many), kept)

    def pairs(self, p, points):
        left = fits(p, points)
        return [
            pair for pair in itertools.combinations(left, 2)
            if all(measured(p, pair + (point,)) for point in points)
        ]


if __name__ == "__main__":
    unittest.main()
