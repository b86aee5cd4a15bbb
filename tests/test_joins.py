import unittest

from samples import PRIMES, Draws, all_triples, is_triple, lies, measured, three_on_a_line

from ovalfield.errors import Alike
from ovalfield.joins import first_three, join, lines_through, measure, meet, on, points_on, triples
from ovalfield.triples import Line, Point


class TestOn(unittest.TestCase):
    def test_written_out(self):
        self.assertIs(on(3, (1, 1, 1), (1, 1, 1)), True)
        self.assertIs(on(5, (1, 1, 1), (1, 1, 1)), False)
        self.assertIs(on(11, (1, 2, 3), (1, 2, 2)), True)

    def test_every_point_and_every_line(self):
        for p in PRIMES:
            for point in all_triples(p):
                for line in all_triples(p):
                    self.assertIs(on(p, point, line), lies(p, point, line))


class TestJoinAndMeet(unittest.TestCase):
    def test_written_out(self):
        self.assertEqual(join(5, (1, 0, 0), (0, 1, 0)), (0, 0, 1))
        self.assertEqual(meet(5, (1, 0, 0), (0, 0, 1)), (0, 1, 0))
        self.assertEqual(join(7, (1, 2, 3), (1, 1, 1)), (1, 5, 1))
        self.assertEqual(meet(7, (1, 2, 3), (1, 1, 1)), (1, 5, 1))

    def test_every_two_unlike_ones_have_just_one(self):
        for p in PRIMES:
            through = {point: {line for line in all_triples(p) if lies(p, point, line)} for point in all_triples(p)}
            for one in all_triples(p):
                for other in all_triples(p):
                    if one == other:
                        continue
                    both = through[one] & through[other]
                    for told in (join(p, one, other), meet(p, one, other)):
                        self.assertEqual({told}, both, (p, one, other))
                        self.assertIs(type(told), tuple)
                    self.assertEqual(join(p, other, one), join(p, one, other))
                    self.assertEqual(meet(p, other, one), meet(p, one, other))

    def test_two_like_ones_are_refused(self):
        for p in PRIMES:
            for triple in all_triples(p):
                for ask in (join, meet):
                    with self.assertRaises(Alike) as caught:
                        ask(p, triple, tuple(list(triple)))
                    self.assertEqual(caught.exception.triple, triple)
                    self.assertIs(type(caught.exception.triple), tuple)

    def test_as_points_and_lines_tell_it(self):
        for p in PRIMES:
            one, other = (1, 0, 2), (0, 1, 1)
            self.assertEqual(Point(p, one).across(Point(p, other)).told(), join(p, one, other))
            self.assertEqual(Line(p, one).across(Line(p, other)).told(), meet(p, one, other))


class TestMeasure(unittest.TestCase):
    def test_written_out(self):
        for p in PRIMES:
            self.assertEqual(measure(p, (1, 0, 0), (0, 1, 0), (0, 0, 1)), 1)
            self.assertEqual(measure(p, (0, 1, 0), (1, 0, 0), (0, 0, 1)), p - 1)
            self.assertEqual(measure(p, (0, 0, 0), (0, 0, 0), (0, 0, 0)), 0)
            self.assertEqual(measure(p, (2, 0, 0), (0, 2, 0), (0, 0, 2)), 8 % p)
        self.assertEqual(measure(7, (1, 2, 3), (4, 5, 6), (0, 1, 1)), 3)

    def test_by_the_sum(self):
        for p in PRIMES:
            draws = Draws(p)
            for turn in range(3000):
                rows = [draws.row(p, 3) for place in range(3)]
                told = measure(p, rows[0], rows[1], rows[2])
                self.assertEqual(told, measured(p, rows), (p, rows))
                self.assertIs(type(told), int)
                self.assertIn(told, range(p))

    def test_all_of_the_prime_three_with_one_row_kept(self):
        rows = [(x, y, z) for x in range(3) for y in range(3) for z in range(3)]
        for one in rows:
            for other in rows:
                for third in ((0, 0, 0), (1, 2, 0), (2, 2, 1)):
                    self.assertEqual(measure(3, one, other, third), measured(3, (one, other, third)))

    def test_with_a_row_of_noughts_or_two_alike(self):
        for p in PRIMES:
            for one in all_triples(p):
                self.assertEqual(measure(p, one, (0, 0, 0), (1, 2, 1)), 0)
                self.assertEqual(measure(p, (0, 0, 0), one, (1, 2, 1)), 0)
                self.assertEqual(measure(p, one, (1, 2, 1), one), 0)
                self.assertEqual(measure(p, one, one, one), 0)

    def test_nought_just_where_a_line_holds_all_three(self):
        for p in PRIMES:
            draws = Draws(40 + p)
            points = all_triples(p)
            for turn in range(300):
                three = [draws.chosen(points) for place in range(3)]
                held = any(all(lies(p, point, line) for point in three) for line in all_triples(p))
                self.assertEqual(measure(p, three[0], three[1], three[2]) == 0, held)


class TestFirstThree(unittest.TestCase):
    def test_written_out(self):
        frame = [(1, 0, 0), (0, 1, 0), (0, 0, 1), (1, 1, 1)]
        for p in PRIMES:
            self.assertIsNone(first_three(p, frame))
            self.assertEqual(first_three(p, frame + [(1, 1, 0)]), ((1, 0, 0), (0, 1, 0), (1, 1, 0)))
            self.assertEqual(first_three(p, frame[2:] + [(1, 1, 0)]), ((0, 0, 1), (1, 1, 1), (1, 1, 0)))
            self.assertEqual(first_three(p, [(1, 1, 0)] + frame), ((1, 1, 0), (1, 0, 0), (0, 1, 0)))

    def test_none_of_fewer_than_three(self):
        for p in PRIMES:
            self.assertIsNone(first_three(p, []))
            self.assertIsNone(first_three(p, [(1, 0, 0)]))
            self.assertIsNone(first_three(p, [(1, 0, 0), (1, 0, 0)]))

    def test_a_point_that_stands_there_twice(self):
        for p in PRIMES:
            self.assertEqual(
                first_three(p, [(1, 0, 0), (0, 1, 0), (1, 0, 0)]), ((1, 0, 0), (0, 1, 0), (1, 0, 0)))
            self.assertEqual(
                first_three(p, [(0, 0, 1), (1, 0, 0), (0, 1, 0), (1, 0, 0)]), ((0, 0, 1), (1, 0, 0), (1, 0, 0)))
            self.assertEqual(first_three(p, [(1, 1, 1)] * 5), ((1, 1, 1),) * 3)

    def test_lists_of_all_lengths(self):
        for p in PRIMES:
            draws = Draws(7 * p)
            for count in range(31):
                for turn in range(12):
                    points = [draws.chosen(all_triples(p)) for place in range(count)]
                    self.holds(p, points)
                    self.holds(p, draws.mixed(all_triples(p))[:count])

    def test_points_of_which_no_three_lie_on_a_line(self):
        for p in PRIMES:
            curve = [(0, 0, 1)] + [(1, t, t * t % p) for t in range(p)]
            self.assertIsNone(first_three(p, curve))
            draws = Draws(p)
            for point in all_triples(p):
                for place in (0, p // 2, p + 1):
                    points = draws.mixed(curve)
                    points.insert(place, point)
                    self.holds(p, points)
                    self.assertIsNotNone(first_three(p, points))

    def holds(self, p, points):
        kept = list(points)
        told = first_three(p, points)
        self.assertEqual(told, three_on_a_line(p, points), (p, points))
        self.assertIn(type(told), (tuple, type(None)))
        self.assertEqual(points, kept)
        self.assertEqual(first_three(p, points), told)


class TestLists(unittest.TestCase):
    def test_all_triples(self):
        for p in PRIMES:
            told = triples(p)
            self.assertIs(type(told), list)
            self.assertEqual(told, all_triples(p))
            self.assertEqual(told, sorted(told))
            self.assertEqual(len(set(told)), p * p + p + 1)
            self.assertTrue(all(is_triple(p, triple) for triple in told))

    def test_points_of_lines_and_lines_of_points(self):
        for p in PRIMES:
            for triple in all_triples(p):
                fitting = [other for other in all_triples(p) if lies(p, triple, other)]
                for told in (points_on(p, triple), lines_through(p, triple)):
                    self.assertIs(type(told), list)
                    self.assertEqual(told, fitting)
                    self.assertEqual(told, sorted(told))
                    self.assertEqual(len(told), p + 1)

    def test_a_list_that_the_asker_changed(self):
        for p in PRIMES:
            for ask in (triples, lambda p: points_on(p, (1, 2, 0)), lambda p: lines_through(p, (1, 2, 0))):
                told = ask(p)
                kept = list(told)
                told.reverse()
                told[0] = None
                told.append((1, 1, 1))
                self.assertEqual(ask(p), kept)
                self.assertIsNot(ask(p), ask(p))
                ask(p).clear()
                self.assertEqual(ask(p), kept)


if __name__ == "__main__":
    unittest.main()
