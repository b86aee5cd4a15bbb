import copy
import itertools
import unittest

from samples import PRIMES, SHUT, Draws, all_triples, curve_points, curves_of_all_sorts, fits, measured, whole_curves

from ovalfield.papers import stands
from ovalfield.sets import look

LINE = ("line", ((1, 0, 0), (0, 1, 0), (1, 1, 0)))
MORE = ("more", (1, 1, 1))
CURVE = ("curve", (0, 1, 0, 0, 2, 0))
ODD = (
    None, True, False, 0, 1, -1, 3.5, 1j, 10 ** 60, "", "line", "more (1 1 1)", b"line", [], {}, (), set(), frozenset(),
    object(), range(3), len, int, Exception(),
    [[]], [()], {"line": LINE[1]}, {1: {2: [3]}}, ((),), ([],), ({},), (None,), (None, None), (None, None, None),
    ("line",), ("curve",), ("more",), ("ends",), (1, 2),
    ("line", None), ("curve", None), ("more", None), ("ends", None),
    ("line", 1), ("curve", 1), ("more", 1), ("ends", 1), ("line", "abc"), ("curve", "abcdef"), ("more", "abc"),
    ("ends", "abc"), ("line", ()), ("curve", ()), ("more", ()), ("ends", ()), ("line", []), ("curve", []), ("more", []),
    ("line", {}), ("curve", {}), ("more", {}), ("ends", {}), ("line", (1, 2, 3)), ("line", ("a", "b", "c")),
    ("line", (None, None, None)), ("line", ([], [], [])), ("line", ({}, {}, {})), ("line", ((), (), ())),
    ("curve", (None,) * 6), ("curve", ((),) * 6), ("curve", ("0",) * 6), ("curve", (0.0, 1.0, 0.0, 0.0, 2.0, 0.0)),
    ("more", (None,) * 3), ("more", ("1", "1", "1")), ("more", (1.0, 1.0, 1.0)), ("more", ((1, 1, 1),) * 3),
    ("more", (-1, 1, 1)), ("more", (0, 0, 0)), ("more", ([1], [1], [1])), ("more", (1, 1, 10 ** 60)),
    ("ends", [None]), ("ends", [()]), ("ends", [[]]), ("ends", [(None, None, None)]), ("ends", [1, 2, 3]),
    ("curve", (0, 0, 0, 0, 0, 0)), ("curve", (0, 1, 0, 0, -1, 0)), ("curve", (1, 1, 1)),
    (["line"], LINE[1]), (("line",), LINE[1]), ({}, LINE[1]), (b"line", LINE[1]), (True, LINE[1]), (len, LINE[1]),
)


def other_forms(p, triple):
    """Things that are like a point but no triple: a list, multiples, with truths, with parts more or less."""
    x, y, z = triple
    forms = [list(triple), triple + (0,), triple[:2], (x, y, z + p), (x - p, y, z), (triple,), str(triple), None,
             (float(x), y, z), {0: x, 1: y, 2: z}, tuple(str(n) for n in triple), tuple(2 * n % p for n in triple)]
    for place, number in enumerate(triple):
        if number in (0, 1):
            forms.append(triple[:place] + (bool(number),) + triple[place + 1:])
    return forms


def exchanged(things, place, thing):
    """The same tuple or list with another thing in one place."""
    return things[:place] + type(things)([thing]) + things[place + 1:]


def rows_for(p, points):
    """A row for each point left out that is on a line with two of the set, whether the set is one to end or not."""
    rows = []
    for point in all_triples(p):
        pairs = [pair for pair in itertools.combinations(points, 2) if measured(p, pair + (point,)) == 0]
        if point not in points and pairs:
            rows.append((point,) + pairs[0])
    return rows


class Papers(unittest.TestCase):
    def holds(self, p, points, paper, truth):
        kept = (list(points), copy.deepcopy(paper))
        told = stands(p, points, paper)
        self.assertIs(told, truth, (p, points, paper))
        self.assertEqual((points, paper), kept)
        self.assertIs(stands(p, points, paper), truth)


class TestTold(Papers):
    def test_what_look_tells_stands(self):
        for p in PRIMES:
            draws = Draws(p)
            for turn in range(60):
                points = draws.unlike(p, draws.below(13)) if turn % 2 else draws.arc(p, turn % (p + 2))
                told = look(p, points)
                self.holds(p, points, told, True)
                self.holds(p, points, list(told), False)
                self.holds(p, points, told + (None,), False)
                self.holds(p, points, told[:1], False)
                for word in ("line", "curve", "more", "ends", "Line", "", "line ", None, 0):
                    if word != told[0]:
                        self.holds(p, points, (word, told[1]), False)
            for curve in whole_curves(p, 5):
                self.holds(p, draws.mixed(curve_points(p, curve)), ("curve", curve), True)
        for p in SHUT:
            self.holds(p, SHUT[p], look(p, SHUT[p]), True)

    def test_things_of_any_other_kind(self):
        for p in PRIMES:
            sets = [[], [(1, 0, 0)], [(1, 0, 0), (0, 1, 0), (1, 1, 0)], curve_points(p, (0, 1, 0, 0, p - 1, 0))]
            sets += [SHUT[p]] if p in SHUT else []
            for points in sets:
                kept = list(points)
                for paper in ODD:
                    if p == 3 and paper == CURVE:
                        continue
                    self.assertIs(stands(p, points, paper), False, (p, points, paper))
                self.assertEqual(points, kept)

    def test_things_that_hold_themselves(self):
        loop = []
        loop.append(loop)
        for paper in (loop, (loop, loop), ("line", loop), ("ends", loop), ("more", (loop, loop, loop))):
            self.assertIs(stands(5, [(1, 0, 0)], paper), False)


class TestLine(Papers):
    def test_three_on_a_line_in_any_order(self):
        for p in PRIMES:
            draws = Draws(p)
            for turn in range(25):
                points = draws.unlike(p, 3 + draws.below(8))
                for three in itertools.combinations(points, 3):
                    truth = measured(p, three) == 0
                    for order in itertools.permutations(three):
                        self.holds(p, points, ("line", order), truth)

    def test_what_does_not_stand(self):
        points = [(1, 0, 0), (0, 1, 0), (1, 1, 0), (0, 0, 1), (1, 1, 1)]
        for p in PRIMES:
            self.holds(p, points, LINE, True)
            three = LINE[1]
            for other in (list(three), three + three[:1], three[:2], three[0] + three[1] + three[2], (three,), None):
                self.holds(p, points, ("line", other), False)
            # On a line with two of the set, yet not of the set.
            self.holds(p, points, ("line", ((1, 0, 0), (0, 1, 0), (1, 2, 0))), False)
            self.holds(p, points, ("line", ((1, 0, 0), (0, 1, 0), (1, 0, 0))), False)
            self.holds(p, points, ("line", ((1, 0, 0), (1, 0, 0), (0, 1, 0))), False)
            self.holds(p, points, ("line", ((0, 1, 0), (1, 0, 0), (1, 0, 0))), False)
            self.holds(p, points, ("line", ((1, 0, 0),) * 3), False)
            self.holds(p, points, ("line", ((1, 0, 0), (0, 1, 0), (1, 1, 1))), False)
            for place in range(3):
                for other in other_forms(p, three[place]):
                    self.holds(p, points, ("line", exchanged(three, place, other)), False)
            self.holds(p, [], LINE, False)


class TestCurve(Papers):
    def test_only_the_whole_curve_of_just_these_points(self):
        for p in PRIMES:
            draws = Draws(p)
            curves = whole_curves(p, 8)
            for curve in curves:
                points = draws.mixed(curve_points(p, curve))
                for other in curves:
                    self.holds(p, points, ("curve", other), other == curve)
                self.holds(p, points[1:], ("curve", curve), False)
                beside = [point for point in all_triples(p) if point not in points]
                self.holds(p, points + beside[:1], ("curve", curve), False)
                self.holds(p, points[1:] + beside[:1], ("curve", curve), False)
                self.holds(p, [], ("curve", curve), False)

    def test_other_forms(self):
        for p in PRIMES:
            for curve in whole_curves(p, 8):
                points = curve_points(p, curve)
                forms = [list(curve), curve + (0,), curve[:5], tuple(2 * n % p for n in curve), (curve,), str(curve)]
                for place, number in enumerate(curve):
                    for thing in (number + p, number - p, float(number), str(number), None, (number,)):
                        forms.append(exchanged(curve, place, thing))
                    if number in (0, 1):
                        forms.append(exchanged(curve, place, bool(number)))
                for other in forms:
                    self.holds(p, points, ("curve", other), False)

    def test_curves_that_are_not_whole(self):
        for p in PRIMES:
            for sort, curve in curves_of_all_sorts(p, 6):
                points = curve_points(p, curve)
                if len(points) <= 30:
                    self.holds(p, points, ("curve", curve), sort == "whole")


class TestMore(Papers):
    def test_any_point_that_fits(self):
        for p in PRIMES:
            draws = Draws(p)
            for turn in range(12):
                points = draws.arc(p, turn % (p + 2))
                fitting = fits(p, points)
                for point in all_triples(p):
                    self.holds(p, points, ("more", point), point in fitting)

    def test_a_set_with_three_on_a_line(self):
        points = [(1, 0, 0), (0, 1, 0), (1, 1, 0)]
        for p in PRIMES:
            for point in all_triples(p):
                self.holds(p, points, ("more", point), False)

    def test_other_forms(self):
        for p in PRIMES:
            for points in ([], [(1, 0, 0)], [(1, 0, 0), (0, 1, 0)]):
                for point in fits(p, points):
                    self.holds(p, points, ("more", point), True)
                    for other in other_forms(p, point)[:: 1 if p < 7 else 3]:
                        self.holds(p, points, ("more", other), False)


class TestEnds(Papers):
    def test_rows_with_other_two_points(self):
        for p, points in SHUT.items():
            told = look(p, points)[1]
            self.holds(p, points, ("ends", told), True)
            self.holds(p, points[::-1], ("ends", told), True)
            self.holds(p, points, ("ends", [(point, two, one) for point, one, two in told]), True)
            latest = []
            for point, one, two in told:
                pairs = list(itertools.combinations(points, 2))
                latest.append((point,) + [pair for pair in pairs if measured(p, pair + (point,)) == 0][-1])
            self.assertNotEqual(latest, told)
            self.holds(p, points, ("ends", latest), True)

    def test_rows_that_do_not_stand(self):
        for p, points in SHUT.items():
            told = look(p, points)[1]
            bad = [tuple(told), told[1:], told[:-1], told + told[-1:], told[:3] + told[4:], told[::-1], [], [told], {},
                   told[1:2] + told[:1] + told[2:], told[:1] + told, dict(enumerate(told)), None]
            for place in range(0, len(told), 7):
                point, one, two = told[place]
                off = [other for other in points if measured(p, (point, one, other)) != 0]
                beside = [
                    other for other in all_triples(p)
                    if other not in points and other != point and measured(p, (point, one, other)) == 0
                ]
                rows = [list(told[place]), told[place] + (one,), told[place][:2], (point, one, one), (point, two, two),
                        (point, one, off[0]), (point, point, one), (point, one, point), (one, one, two), None, (),
                        (point, one, beside[0]), (point, beside[0], two), (beside[0], one, two), (two, one, point)]
                for part in range(3):
                    rows += [exchanged(told[place], part, other) for other in other_forms(p, told[place][part])]
                bad += [exchanged(told, place, row) for row in rows]
            for rows in bad:
                self.holds(p, points, ("ends", rows), False)

    def test_sets_to_which_a_point_can_be_put_or_that_are_a_curve(self):
        for p in PRIMES:
            for points in ([], [(0, 0, 1)], [(1, 0, 0), (0, 1, 0), (0, 0, 1)]):
                self.holds(p, points, ("ends", rows_for(p, points)), False)
                self.holds(p, points, ("ends", []), False)
            points = curve_points(p, (0, 1, 0, 0, p - 1, 0))
            self.assertEqual(len(rows_for(p, points)), p * p)
            self.holds(p, points, ("ends", rows_for(p, points)), False)

    def test_a_set_with_three_on_a_line(self):
        for p, shut in SHUT.items():
            for point in all_triples(p):
                if point not in shut:
                    points = shut + [point]
                    self.assertEqual(len(rows_for(p, points)), p * p + p + 1 - len(points))
                    self.holds(p, points, ("ends", rows_for(p, points)), False)


if __name__ == "__main__":
    unittest.main()
