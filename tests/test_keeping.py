import itertools
import unittest

from samples import (
    EVEN, PRIMES, Draws, all_triples, curve_points, curves_of_all_sorts, is_table, leads, led_by, measured, value_by,
    whole_curves,
)

from ovalfield.curves import moved
from ovalfield.errors import Alike, NoCount, NotOn, NotWhole
from ovalfield.keeping import all_keeping, curve_move, keeping, keeps
from ovalfield.tables import after, table_back


def all_tables_by_three():
    for nine in itertools.product(range(3), repeat=9):
        if [n for n in nine if n][:1] == [1] and measured(3, (nine[:3], nine[3:6], nine[6:])):
            yield (nine[:3], nine[3:6], nine[6:])


class TestKeeps(unittest.TestCase):
    def test_written_out(self):
        turned = ((0, 0, 1), (0, 1, 0), (1, 0, 0))
        for p in PRIMES:
            plain = (0, 1, 0, 0, p - 1, 0)
            self.assertIs(keeps(p, plain, EVEN), True)
            self.assertIs(keeps(p, plain, turned), True)
            self.assertIs(keeps(p, plain, ((0, 1, 0), (1, 0, 0), (0, 0, 1))), False)
            self.assertIs(keeps(p, (1, 0, 0, 0, 0, 0), turned), False)
            self.assertIs(keeps(p, (0, 1, 0, 0, 0, 0), turned), True)

    def test_curves_of_all_sorts(self):
        for p in PRIMES:
            draws = Draws(p)
            for sort, curve in curves_of_all_sorts(p, 25):
                for table in [EVEN] + [draws.table(p) for turn in range(6)]:
                    told = keeps(p, curve, table)
                    self.assertIs(told, leads(p, table, curve, curve))
                    self.assertIs(told, moved(p, curve, table) == curve)

    def test_all_tables_by_three(self):
        curves = [curve for sort, curve in curves_of_all_sorts(3, 1)]
        for table in all_tables_by_three():
            for curve in curves:
                self.assertIs(keeps(3, curve, table), leads(3, table, curve, curve))


class TestKeeping(unittest.TestCase):
    def test_written_out(self):
        for p in PRIMES:
            plain = (0, 1, 0, 0, p - 1, 0)
            three = [(1, 0, 0), (0, 0, 1), (1, 1, 1)]
            self.assertEqual(keeping(p, plain, three, three), EVEN)
            turned = [three[1], three[0], three[2]]
            self.assertEqual(keeping(p, plain, three, turned), ((0, 0, 1), (0, 1, 0), (1, 0, 0)))

    def test_leads_the_three_and_keeps_the_curve(self):
        for p in PRIMES:
            draws = Draws(p)
            for curve in whole_curves(p, 15):
                for turn in range(6):
                    three = draws.mixed(curve_points(p, curve))[:3]
                    goals = draws.mixed(curve_points(p, curve))[:3]
                    kept = (list(three), list(goals))
                    told = keeping(p, curve, three, goals)
                    self.assertTrue(is_table(p, told))
                    self.assertEqual([led_by(p, told, point) for point in three], goals)
                    self.assertTrue(leads(p, told, curve, curve))
                    self.assertEqual((three, goals), kept)

    def test_goals_by_a_keeping_table_give_that_table(self):
        for p in PRIMES:
            draws = Draws(p)
            for curve in whole_curves(p, 1):
                for table in all_keeping(p, curve)[:: 1 if p < 7 else 13]:
                    three = draws.mixed(curve_points(p, curve))[:3]
                    self.assertEqual(keeping(p, curve, three, [led_by(p, table, point) for point in three]), table)

    def test_not_whole_comes_first(self):
        for p in PRIMES:
            for sort, curve in curves_of_all_sorts(p, 4):
                if sort != "whole":
                    points = (curve_points(p, curve) * 3)[:3]
                    for three in (points, [], points[:2], [(1, 0, 0)] * 3, all_triples(p)[:4]):
                        self.assertRaises(NotWhole, keeping, p, curve, three, points)
                        self.assertRaises(NotWhole, keeping, p, curve, points, three)

    def test_then_the_count(self):
        for p in PRIMES:
            for curve in whole_curves(p, 3):
                points = curve_points(p, curve)
                off = [point for point in all_triples(p) if point not in points]
                for count in (0, 1, 2, 4):
                    for some in (points[:count], off[:count], [points[0]] * count):
                        for three in (points[:3], off[:3], [points[0]] * 3, points[:count]):
                            self.assertRaises(NoCount, keeping, p, curve, some, three)
                            self.assertRaises(NoCount, keeping, p, curve, three, some)

    def test_then_point_by_point(self):
        for p in PRIMES:
            for curve in whole_curves(p, 6):
                a, b, c, d = curve_points(p, curve)[:4]
                off = [point for point in all_triples(p) if value_by(p, curve, point) != 0]
                e, f = off[0], off[-1]
                good = [b, d, a]
                self.refuses(p, curve, [a, b, e], good, NotOn, e)
                self.refuses(p, curve, [e, f, e], good, NotOn, e)
                self.refuses(p, curve, [a, a, e], good, Alike, a)
                self.refuses(p, curve, [a, e, a], good, NotOn, e)
                self.refuses(p, curve, [a, b, b], good, Alike, b)
                self.refuses(p, curve, [a, b, a], [e, f, e], Alike, a)
                self.refuses(p, curve, [a, b, f], [c, c, c], NotOn, f)
                self.refuses(p, curve, good, [c, d, f], NotOn, f)
                self.refuses(p, curve, good, [c, f, f], NotOn, f)
                self.refuses(p, curve, good, [c, c, f], Alike, c)
                self.refuses(p, curve, good, [c, d, d], Alike, d)
                # The same point in both lists is none that stood in its own list before.
                self.assertEqual(keeping(p, curve, good, good), EVEN)

    def refuses(self, p, curve, three, goals, refusal, triple):
        kept = (list(three), list(goals))
        with self.assertRaises(refusal) as caught:
            keeping(p, curve, three, goals)
        self.assertEqual(caught.exception.triple, triple)
        self.assertIs(type(caught.exception.triple), tuple)
        self.assertEqual((three, goals), kept)


class TestAllKeeping(unittest.TestCase):
    def test_so_many_sorted_and_each_keeps(self):
        for p in PRIMES:
            for curve in whole_curves(p, 1):
                told = all_keeping(p, curve)
                self.assertIs(type(told), list)
                self.assertEqual(len(told), p * (p * p - 1))
                self.assertEqual(told, sorted(set(told)))
                held = set(told)
                for table in told:
                    self.assertTrue(is_table(p, table))
                    self.assertTrue(leads(p, table, curve, curve))
                    self.assertIn(table_back(p, table), held)
                for one in told[::37]:
                    for other in told[::41]:
                        self.assertIn(after(p, one, other), held)

    def test_all_tables_by_three(self):
        tables = list(all_tables_by_three())
        for curve in whole_curves(3, 4):
            self.assertEqual(all_keeping(3, curve), [table for table in tables if leads(3, table, curve, curve)])

    def test_each_three_is_led_by_just_one(self):
        for p in (3, 5, 7):
            for curve in whole_curves(p, 1):
                three = curve_points(p, curve)[-3:]
                goals = [tuple(led_by(p, table, point) for point in three) for table in all_keeping(p, curve)]
                self.assertEqual(sorted(goals), sorted(itertools.permutations(curve_points(p, curve), 3)))

    def test_not_whole(self):
        for p in PRIMES:
            for sort, curve in curves_of_all_sorts(p, 5):
                if sort != "whole":
                    self.assertRaises(NotWhole, all_keeping, p, curve)

    def test_a_list_that_the_asker_changed(self):
        for p in (3, 5):
            plain = (0, 1, 0, 0, p - 1, 0)
            told = all_keeping(p, plain)
            kept = list(told)
            told.reverse()
            told[0] = None
            self.assertEqual(all_keeping(p, plain), kept)


class TestCurveMove(unittest.TestCase):
    def test_the_three_least_points_in_their_order(self):
        for p in PRIMES:
            curves = whole_curves(p, 8)
            for one in curves:
                for other in curves:
                    told = curve_move(p, one, other)
                    self.assertTrue(is_table(p, told))
                    least = [led_by(p, told, point) for point in curve_points(p, one)[:3]]
                    self.assertEqual(least, curve_points(p, other)[:3])
                    self.assertTrue(leads(p, told, one, other))
                    self.assertEqual(moved(p, one, told), other)
                    self.assertEqual(after(p, curve_move(p, other, one), told), EVEN)

    def test_of_a_curve_and_itself(self):
        for p in PRIMES:
            for curve in whole_curves(p, 20):
                self.assertEqual(curve_move(p, curve, curve), EVEN)

    def test_not_whole_in_either_place(self):
        for p in PRIMES:
            plain = (0, 1, 0, 0, p - 1, 0)
            for sort, curve in curves_of_all_sorts(p, 5):
                if sort != "whole":
                    self.assertRaises(NotWhole, curve_move, p, curve, plain)
                    self.assertRaises(NotWhole, curve_move, p, plain, curve)
                    self.assertRaises(NotWhole, curve_move, p, curve, curve)


if __name__ == "__main__":
    unittest.main()
