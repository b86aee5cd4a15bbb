import unittest

from samples import EVEN, GREAT, NUMBERS, PRIMES, Draws, all_triples, form, is_table, led_by, lies, measured

from ovalfield.errors import NoTable
from ovalfield.tables import after, led, led_line, table_back, table_of


def number_rows(draws):
    return [[draws.chosen(NUMBERS) for place in range(3)] for row in range(3)]


def tables(p, count):
    draws = Draws(90 + p)
    return [EVEN, ((0, 1, 0), (0, 0, 1), (1, 0, 0))] + [draws.table(p) for turn in range(count)]


class TestTableOf(unittest.TestCase):
    def test_written_out(self):
        self.assertEqual(table_of(7, [[2, 0, 0], [0, 4, 0], [0, 0, 6]]), ((1, 0, 0), (0, 2, 0), (0, 0, 3)))
        self.assertEqual(table_of(5, ((0, -1, 0), (1, 0, 0), (0, 0, 7))), ((0, 1, 0), (4, 0, 0), (0, 0, 3)))
        for p in PRIMES:
            self.assertEqual(table_of(p, EVEN), EVEN)

    def test_in_one_form_over_all_nine(self):
        for p in PRIMES:
            draws = Draws(p)
            for turn in range(1500):
                rows = number_rows(draws)
                if measured(p, rows) == 0:
                    self.refuses(p, rows)
                    continue
                kept = [list(row) for row in rows]
                told = table_of(p, rows)
                self.assertTrue(is_table(p, told), (p, rows, told))
                self.assertEqual(sum(told, ()), form(p, sum(rows, [])))
                self.assertEqual(rows, kept)
                self.assertEqual(table_of(p, tuple(tuple(row) for row in rows)), told)
                self.assertEqual(table_of(p, [tuple(row) for row in rows]), told)
                self.assertEqual(table_of(p, tuple(rows)), told)

    def test_all_of_small_numbers_by_three(self):
        found = set()
        for code in range(3 ** 9):
            nine = [code // 3 ** place % 3 for place in range(9)]
            rows = [nine[:3], nine[3:6], nine[6:]]
            if measured(3, rows) == 0:
                self.refuses(3, rows)
            else:
                found.add(table_of(3, rows))
        # So many moves has the plane by three.
        self.assertEqual(len(found), 13 * 12 * 9 * 4)

    def test_sixty_figures_of_both_signs(self):
        for p in PRIMES:
            for great in GREAT:
                for sign in (1, -1):
                    rows = [[sign * great, 1, 0], [0, -sign * great + 1, 2], [5, 0, great + 2]]
                    if measured(p, rows) == 0:
                        self.refuses(p, rows)
                    else:
                        self.assertEqual(sum(table_of(p, rows), ()), form(p, sum(rows, [])))

    def test_multiplied_it_is_the_same(self):
        for p in PRIMES:
            for table in tables(p, 30):
                for factor in (-1, 2, 4, 13, -10 ** 40 + 1):
                    if factor % p:
                        rows = [[factor * n for n in row] for row in table]
                        self.assertEqual(table_of(p, rows), table)

    def test_changed_later_it_stays(self):
        for p in PRIMES:
            rows = [[1, 1, 0], [0, 1, 0], [0, 0, 2]]
            told = table_of(p, rows)
            rows[0][1] = 2
            rows[1] = None
            self.assertEqual(told, ((1, 1, 0), (0, 1, 0), (0, 0, 2)))

    def test_refused_where_the_measure_is_nought(self):
        for p in PRIMES:
            draws = Draws(3 * p)
            for turn in range(100):
                one = [draws.chosen(NUMBERS) for place in range(3)]
                other = [draws.chosen(NUMBERS) for place in range(3)]
                by, also = draws.below(20) - 10, draws.below(20) - 10
                between = [by * a + also * b for a, b in zip(one, other)]
                beside = [a + p * draws.below(9) for a in one]
                for third in (between, [0, 0, 0], [p, -p, 0], one, beside):
                    for rows in ([one, other, third], [third, one, other], [one, third, other]):
                        self.refuses(p, rows)

    def refuses(self, p, rows):
        kept = [list(row) for row in rows]
        self.assertRaises(NoTable, table_of, p, rows)
        self.assertRaises(NoTable, table_of, p, tuple(tuple(row) for row in rows))
        self.assertEqual([list(row) for row in rows], kept)


class TestLed(unittest.TestCase):
    def test_written_out(self):
        table = ((1, 1, 0), (0, 1, 0), (0, 0, 2))
        self.assertEqual(led(5, table, (0, 1, 1)), (1, 1, 2))
        self.assertEqual(led(5, table, (1, 4, 3)), (0, 1, 4))
        self.assertEqual(led_line(5, ((0, 1, 0), (0, 0, 1), (1, 0, 0)), (0, 1, 2)), (1, 2, 0))

    def test_every_point(self):
        for p in PRIMES:
            for table in tables(p, 40):
                found = [led(p, table, point) for point in all_triples(p)]
                self.assertEqual(found, [led_by(p, table, point) for point in all_triples(p)])
                self.assertEqual(sorted(found), all_triples(p))

    def test_a_point_lies_on_a_line_just_where_the_led_one_does(self):
        for p in PRIMES:
            for table in tables(p, 6):
                points = {point: led(p, table, point) for point in all_triples(p)}
                for line in all_triples(p):
                    told = led_line(p, table, line)
                    self.assertIn(told, points)
                    self.assertIs(type(told), tuple)
                    for point, goal in points.items():
                        self.assertEqual(lies(p, point, line), lies(p, goal, told))

    def test_no_two_lines_are_led_to_the_same_one(self):
        for p in PRIMES:
            for table in tables(p, 20):
                self.assertEqual(sorted(led_line(p, table, line) for line in all_triples(p)), all_triples(p))

    def test_the_even_table_leads_each_to_itself(self):
        for p in PRIMES:
            for triple in all_triples(p):
                self.assertEqual(led(p, EVEN, triple), triple)
                self.assertEqual(led_line(p, EVEN, triple), triple)


class TestAfterAndBack(unittest.TestCase):
    def test_written_out(self):
        turn, add = ((0, 1, 0), (0, 0, 1), (1, 0, 0)), ((1, 1, 0), (0, 1, 0), (0, 0, 1))
        for p in PRIMES:
            # By add first and then by turn, and the other way round.
            self.assertEqual(after(p, turn, add), ((0, 1, 0), (0, 0, 1), (1, 1, 0)))
            self.assertEqual(after(p, add, turn), ((0, 1, 1), (0, 0, 1), (1, 0, 0)))
            self.assertEqual(table_back(p, turn), ((0, 0, 1), (1, 0, 0), (0, 1, 0)))
            self.assertEqual(table_back(p, add), ((1, p - 1, 0), (0, 1, 0), (0, 0, 1)))

    def test_after_leads_by_the_other_first(self):
        for p in PRIMES:
            chosen = tables(p, 12)
            for one in chosen:
                for other in chosen:
                    both = after(p, one, other)
                    self.assertTrue(is_table(p, both))
                    for point in all_triples(p)[:: 1 if p < 7 else 5]:
                        self.assertEqual(led_by(p, both, point), led_by(p, one, led_by(p, other, point)))

    def test_the_table_back(self):
        for p in PRIMES:
            for table in tables(p, 60):
                back = table_back(p, table)
                self.assertTrue(is_table(p, back))
                for point in all_triples(p):
                    self.assertEqual(led_by(p, back, led_by(p, table, point)), point)
                    self.assertEqual(led_by(p, table, led_by(p, back, point)), point)
                self.assertEqual(after(p, back, table), EVEN)
                self.assertEqual(after(p, table, back), EVEN)
                self.assertEqual(table_back(p, back), table)

    def test_tables_that_lead_all_points_alike_are_equal(self):
        for p in PRIMES:
            chosen = tables(p, 40)
            for one in chosen:
                for other in chosen:
                    alike = all(led(p, one, point) == led(p, other, point) for point in all_triples(p))
                    self.assertEqual(one == other, alike)
            one, other, third = chosen[2], chosen[3], chosen[4]
            self.assertEqual(after(p, one, after(p, other, third)), after(p, after(p, one, other), third))


if __name__ == "__main__":
    unittest.main()
