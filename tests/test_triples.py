import unittest

from samples import GREAT, NUMBERS, PRIMES, all_rows, all_triples, rest_by_figures

from ovalfield.errors import Alike, NoTriple
from ovalfield.triples import Line, Point, Triple, one_form

KINDS = (Triple, Point, Line)


def rows_of(count):
    """Rows of so many numbers of both signs and all sizes, with noughts ahead and between."""
    rows = [[NUMBERS[(7 * start + 5 * place) % len(NUMBERS)] for place in range(count)]
            for start in range(len(NUMBERS))]
    for ahead in range(count):
        rows.append([0] * ahead + [4] * (count - ahead))
        rows.append([-1155] * ahead + [GREAT[0]] + [0] * (count - ahead - 1))
    return rows


def is_form(p, told, numbers):
    """Whether told is the form of the numbers, by the words of the document alone."""
    rests = [rest_by_figures(p, n) for n in numbers]
    filled = [n for n in told if n != 0]
    return (
        type(told) is tuple
        and all(type(n) is int and 0 <= n < p for n in told)
        and len(told) == len(numbers)
        and filled[0] == 1
        and any(all(factor * n % p == t for n, t in zip(rests, told)) for factor in range(1, p))
    )


class TestOneForm(unittest.TestCase):
    def test_known_forms(self):
        self.assertEqual(one_form(11, [2, 0, 9]), (1, 0, 10))
        self.assertEqual(one_form(11, (0, -1, 3)), (0, 1, 8))
        self.assertEqual(one_form(3, [3, 0, -1]), (0, 0, 1))
        self.assertEqual(one_form(5, [2, 4, 1]), (1, 2, 3))
        self.assertEqual(one_form(7, (-7, 14, 6, 0, 1)), (0, 0, 1, 0, 6))
        self.assertEqual(one_form(7, [3]), (1,))

    def test_all_rows_of_three_rests(self):
        for p in PRIMES:
            told = [one_form(p, row) for row in all_rows(p)]
            for row, form in zip(all_rows(p), told):
                self.assertTrue(is_form(p, form, row), (p, row))
            self.assertEqual(sorted(set(told)), all_triples(p))
            self.assertEqual(len(set(told)), p * p + p + 1)

    def test_one_to_nine_numbers_as_list_and_as_tuple(self):
        for p in PRIMES:
            for count in range(1, 10):
                for row in rows_of(count):
                    if all(rest_by_figures(p, n) == 0 for n in row):
                        self.assertRaises(NoTriple, one_form, p, row)
                        continue
                    told = one_form(p, row)
                    self.assertTrue(is_form(p, told, row), (p, row, told))
                    self.assertEqual(one_form(p, tuple(row)), told)
                    self.assertEqual(one_form(p, row), told)

    def test_multiplied_it_is_the_same(self):
        for p in PRIMES:
            factors = [n for n in (-1, 2, 4, -13, 10 ** 20, 1 - 10 ** 20) if rest_by_figures(p, n) != 0]
            for count in range(1, 10):
                for row in ([1] + [2] * (count - 1), [0] * (count - 1) + [-2], list(range(1, count + 1))):
                    for factor in factors:
                        self.assertEqual(one_form(p, [factor * n for n in row]), one_form(p, row))

    def test_all_multiples_are_refused(self):
        for p in PRIMES:
            for count in range(1, 10):
                for n in (0, p, -p, p * 10 ** 58, -p * 10 ** 58):
                    self.assertRaises(NoTriple, one_form, p, [n] * count)
                    self.assertRaises(NoTriple, one_form, p, (n,) * count)
                    self.assertRaises(NoTriple, one_form, p, [0] * (count - 1) + [n])
                self.assertEqual(one_form(p, [2] * count), (1,) * count)

    def test_what_is_handed_in_stays(self):
        for p in PRIMES:
            for row in rows_of(3) + [[0, 0, 0], [p, -p, 0]]:
                kept = list(row)
                try:
                    one_form(p, row)
                except NoTriple:
                    pass
                self.assertEqual(row, kept)


class TestMade(unittest.TestCase):
    def test_told_is_the_triple_in_one_form(self):
        for p in PRIMES:
            for kind in KINDS:
                for row in all_rows(p):
                    self.assertTrue(is_form(p, kind(p, row).told(), row))
                    self.assertEqual(kind(p, list(row)).told(), kind(p, row).told())

    def test_told_of_numbers_of_any_size_and_sign(self):
        for p in PRIMES:
            for kind in KINDS:
                for row in rows_of(3):
                    if any(rest_by_figures(p, n) for n in row):
                        self.assertTrue(is_form(p, kind(p, row).told(), row))

    def test_shown_as_written_in_the_document(self):
        self.assertEqual(Point(11, [1, 0, 10]).shown(), "(1 0 10)")
        self.assertEqual(Line(11, [1, 0, 10]).shown(), "[1 0 10]")
        self.assertEqual(Triple(11, [1, 0, 10]).shown(), "1 0 10")
        self.assertEqual(Point(11, (-1, 0, 1)).shown(), "(1 0 10)")
        self.assertEqual(Line(3, (6, 5, -2)).shown(), "[0 1 2]")

    def test_shown_of_all(self):
        for p in PRIMES:
            for x, y, z in all_triples(p):
                twice = (2 * x, 2 * y - p, 2 * z + p)
                self.assertEqual(Triple(p, twice).shown(), f"{x} {y} {z}")
                self.assertEqual(Point(p, twice).shown(), f"({x} {y} {z})")
                self.assertEqual(Line(p, twice).shown(), f"[{x} {y} {z}]")

    def test_a_list_changed_later_changes_nothing(self):
        for p in PRIMES:
            for kind in KINDS:
                numbers = [0, 2, 1]
                thing = kind(p, numbers)
                told, shown = thing.told(), thing.shown()
                self.assertEqual(numbers, [0, 2, 1])
                numbers[0] = 1
                numbers.append(5)
                self.assertEqual((thing.told(), thing.shown()), (told, shown))
                self.assertEqual(told, kind(p, [0, 2, 1]).told())

    def test_multiples_alone_are_refused(self):
        for p in PRIMES:
            for kind in KINDS:
                for row in ([0, 0, 0], (0, 0, 0), [p, -p, 0], (p * 10 ** 58, 0, -p * 10 ** 58), [p, p, p]):
                    self.assertRaises(NoTriple, kind, p, row)
                self.assertEqual(kind(p, [0, 0, 2]).told(), (0, 0, 1))

    def test_points_and_lines_are_triples_and_not_each_other(self):
        self.assertTrue(issubclass(Point, Triple))
        self.assertTrue(issubclass(Line, Triple))
        self.assertFalse(issubclass(Point, Line))
        self.assertFalse(issubclass(Line, Point))


class TestAcross(unittest.TestCase):
    def test_known_ones(self):
        self.assertEqual(Point(5, [1, 0, 0]).across(Point(5, [0, 1, 0])).told(), (0, 0, 1))
        self.assertEqual(Line(5, [1, 0, 0]).across(Line(5, [0, 0, 1])).told(), (0, 1, 0))
        self.assertEqual(Point(7, [1, 2, 3]).across(Point(7, [1, 1, 1])).shown(), "[1 5 1]")
        self.assertEqual(Line(7, [1, 2, 3]).across(Line(7, [1, 1, 1])).shown(), "(1 5 1)")

    def test_all_unlike_pairs(self):
        for p in PRIMES:
            for kind, across_kind in ((Point, Line), (Line, Point)):
                things = [kind(p, triple) for triple in all_triples(p)]
                for one in things:
                    for other in things:
                        if one is other:
                            continue
                        between = one.across(other)
                        self.assertIs(type(between), across_kind)
                        told = between.told()
                        self.assertTrue(is_form(p, told, told))
                        for thing in (one, other):
                            self.assertEqual(sum(a * b for a, b in zip(told, thing.told())) % p, 0)

    def test_of_like_ones_it_is_refused(self):
        for p in PRIMES:
            for kind in (Point, Line):
                for triple in all_triples(p):
                    thing = kind(p, triple)
                    for other in (thing, kind(p, triple), kind(p, [2 * n - p for n in triple])):
                        with self.assertRaises(Alike) as caught:
                            thing.across(other)
                        self.assertEqual(caught.exception.triple, triple)
                        self.assertIs(type(caught.exception.triple), tuple)

    def test_nothing_asked_changes_the_askers(self):
        for p in PRIMES:
            for kind in (Point, Line):
                one, other = kind(p, [0, 2, 1]), kind(p, [2, 0, 1])
                first = one.across(other).told()
                told = (one.told(), other.told())
                self.assertRaises(Alike, one.across, one)
                self.assertEqual(one.across(other).told(), first)
                self.assertEqual(other.across(one).told(), first)
                self.assertEqual((one.told(), other.told()), told)


class TestMeets(unittest.TestCase):
    def test_known_ones(self):
        self.assertIs(Point(3, [1, 1, 1]).meets(Line(3, [1, 1, 1])), True)
        self.assertIs(Point(5, [1, 1, 1]).meets(Line(5, [1, 1, 1])), False)
        self.assertIs(Line(11, [1, 2, 3]).meets(Point(11, [3, 4, 0])), True)
        self.assertIs(Line(7, [1, 2, 3]).meets(Point(7, [3, 4, 0])), False)

    def test_all_points_and_lines_either_way_round(self):
        for p in PRIMES:
            points = [Point(p, triple) for triple in all_triples(p)]
            lines = [Line(p, triple) for triple in all_triples(p)]
            for line in lines:
                a, b, c = line.told()
                for point in points:
                    x, y, z = point.told()
                    lies = (a * x + b * y + c * z) % p == 0
                    self.assertIs(point.meets(line), lies)
                    self.assertIs(line.meets(point), lies)
                self.assertEqual(len([point for point in points if line.meets(point)]), p + 1)


if __name__ == "__main__":
    unittest.main()
