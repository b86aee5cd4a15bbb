"""The interface by its names and arguments, and the promise over the whole program."""

import importlib
import inspect
import itertools
import unittest

from samples import (
    FRAME, PRIMES, Draws, all_curves, all_triples, curve_points, curves_of_all_sorts, led_by, lies, measured,
    three_on_a_line, twice_rows, value_by, whole_curves,
)

from ovalfield.curves import is_whole, points_of
from ovalfield.errors import Alike, OnLine
from ovalfield.frames import frame_move
from ovalfield.joins import join, meet, triples
from ovalfield.keeping import all_keeping, keeping
from ovalfield.kinds import kind
from ovalfield.papers import stands
from ovalfield.poles import tangents
from ovalfield.sets import grown, look
from ovalfield.six import six_told
from ovalfield.through import curve_through

INTERFACE = {
    "rests": "prime_of(number) rest(p,n) turned_over(p,n) power(p,a,n) root(p,a)",
    "triples": "one_form(p,numbers) Triple(p,numbers) Point(p,numbers) Line(p,numbers)",
    "texts": "read_one(p,text) read_all(p,texts)",
    "joins": "on(p,point,line) join(p,one,other) meet(p,one,other) measure(p,one,other,third) first_three(p,points)"
             " triples(p) points_on(p,line) lines_through(p,point)",
    "tables": "table_of(p,rows) led(p,table,point) led_line(p,table,line) after(p,one,other) table_back(p,table)",
    "frames": "frame_move(p,four,goals)",
    "curves": "curve_of(p,numbers) plain_curve(p) value(p,curve,point) valuer(p,curve) points_of(p,curve)"
              " moved(p,curve,table) twice_table(p,curve) is_whole(p,curve)",
    "kinds": "kind(p,curve)",
    "poles": "polar(p,curve,point) pole(p,curve,line) side(p,curve,point) tangents(p,curve,point) met_by(p,curve,line)",
    "through": "curve_through(p,points)",
    "six": "meets_of(p,points) six_told(p,points)",
    "sets": "look(p,points) grown(p,points) further(p,points,many=1)",
    "keeping": "keeps(p,curve,table) keeping(p,curve,three,goals) all_keeping(p,curve) curve_move(p,one,other)",
    "pictures": "drawn(p,points) seen(p,texts)",
    "papers": "stands(p,points,paper)",
    "desk": "Desk(p)",
}


def sets_of(p, draws, many):
    """Sets of p + 1 points and more, by chance and near to curves."""
    for curve in whole_curves(p, many):
        points = draws.mixed(curve_points(p, curve))
        beside = draws.mixed([point for point in all_triples(p) if point not in points])
        yield points
        yield points[1:] + beside[:1]
        yield draws.mixed(points + beside[:2])
        yield draws.unlike(p, min(p + 1 + draws.below(8), 30))


class TestInterface(unittest.TestCase):
    def test_names_and_arguments(self):
        for name, told in INTERFACE.items():
            module = importlib.import_module("ovalfield." + name)
            for row in told.split(" "):
                thing, arguments = row[:-1].split("(")
                found = str(inspect.signature(getattr(module, thing))).replace(" ", "")
                self.assertEqual(found, f"({arguments})", (name, thing))

    def test_methods(self):
        from ovalfield.desk import Desk
        from ovalfield.triples import Line, Point, Triple
        for kind_of, names in ((Triple, ("told", "shown")), (Point, ("told", "shown")), (Line, ("told", "shown"))):
            for name in names:
                self.assertEqual(str(inspect.signature(getattr(kind_of, name))), "(self)")
        for kind_of in (Point, Line):
            for name in ("across", "meets"):
                self.assertEqual(str(inspect.signature(getattr(kind_of, name))), "(self, other)")
        self.assertEqual(str(inspect.signature(Desk.say)), "(self, row)")


class TestPromise(unittest.TestCase):
    def test_as_many_points_as_lines(self):
        for p in PRIMES:
            self.assertEqual(len(triples(p)), p * p + p + 1)

    def test_two_points_have_one_line_and_two_lines_one_point(self):
        for p in (3, 5):
            for one, other in itertools.combinations(all_triples(p), 2):
                both = [triple for triple in all_triples(p) if lies(p, one, triple) and lies(p, other, triple)]
                self.assertEqual([join(p, one, other)], both)
                self.assertEqual([meet(p, one, other)], both)

    def test_just_one_move_for_two_frames(self):
        # By 3 there are as many moves as frames, and each is told for its own frame.
        frames = [list(four) for four in itertools.permutations(all_triples(3), 4) if three_on_a_line(3, four) is None]
        moves = {frame_move(3, FRAME, goals) for goals in frames}
        self.assertEqual((len(frames), len(moves)), (5616, 5616))

    def test_each_curve_is_of_one_of_four_kinds(self):
        for p in PRIMES:
            curves = all_curves(3) if p == 3 else [curve for sort, curve in curves_of_all_sorts(p, 30)]
            for curve in curves:
                told = kind(p, curve)
                self.assertIn(told[0], ("point", "twice", "lines", "whole"))
                self.assertEqual(told[0] == "whole", measured(p, twice_rows(p, curve)) != 0)

    def test_each_other_point_lies_on_two_tangents_or_on_none(self):
        for p in PRIMES:
            for curve in whole_curves(p, 2):
                self.assertEqual(len(points_of(p, curve)), p + 1)
                self.assertIsNone(three_on_a_line(p, points_of(p, curve)))
                for point in all_triples(p):
                    many = len(tangents(p, curve, point))
                    self.assertIn(many, (1,) if value_by(p, curve, point) == 0 else (0, 2))

    def test_sets_of_as_many_points_as_a_curve_or_more(self):
        for p in PRIMES:
            for points in sets_of(p, Draws(p), 12):
                told = look(p, points)
                self.assertEqual(told[0] == "line", three_on_a_line(p, points) is not None)
                if told[0] != "line":
                    self.assertEqual((told[0], len(points)), ("curve", p + 1))
                    self.assertTrue(is_whole(p, told[1]))
                    self.assertEqual(points_of(p, told[1]), sorted(points))
                self.assertIs(stands(p, points, told), True)

    def test_smaller_sets(self):
        for p in PRIMES:
            draws = Draws(11 * p)
            for turn in range(40):
                points = draws.arc(p, turn % (p + 1))
                told = look(p, points)
                self.assertIs(stands(p, points, told), True)
                if told[0] == "more":
                    self.assertIsNone(three_on_a_line(p, points + [told[1]]))
                else:
                    self.assertEqual((told[0], len(told[1])), ("ends", p * p + p + 1 - len(points)))

    def test_what_is_grown_as_far_as_a_curve_is_one(self):
        for p in PRIMES:
            draws = Draws(12 * p)
            for turn in range(12):
                points = grown(p, draws.arc(p, 2 + turn % 4))
                self.assertLessEqual(len(points), p + 1)
                if len(points) == p + 1:
                    curve = look(p, points)[1]
                    if p > 3:
                        self.assertEqual(curve_through(p, points[-5:]), curve)
                        self.assertEqual(six_told(p, points[-6:])[:2], ("one", curve))

    def test_five_points_and_their_refusals(self):
        for p in PRIMES:
            draws = Draws(13 * p)
            for turn in range(60):
                points = [draws.chosen(all_triples(p)) for place in range(5)]
                try:
                    curve = curve_through(p, points)
                except (Alike, OnLine):
                    four = [four for four in itertools.combinations(points, 4) if self.on_a_line(p, four)]
                    self.assertTrue(len(set(points)) < 5 or four)
                else:
                    self.assertTrue(all(value_by(p, curve, point) == 0 for point in points))

    def on_a_line(self, p, points):
        return any(all(lies(p, point, line) for point in points) for line in all_triples(p))

    def test_three_points_of_a_curve_are_led_by_just_one_keeping_move(self):
        for p in (3, 5, 7):
            for curve in whole_curves(p, 1):
                tables = all_keeping(p, curve)
                draws = Draws(p)
                for turn in range(10):
                    three = draws.mixed(curve_points(p, curve))[:3]
                    goals = draws.mixed(curve_points(p, curve))[:3]
                    fitting = [table for table in tables if [led_by(p, table, point) for point in three] == goals]
                    self.assertEqual(fitting, [keeping(p, curve, three, goals)])


if __name__ == "__main__":
    unittest.main()
