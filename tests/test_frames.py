import unittest

from samples import EVEN, FRAME, PRIMES, Draws, all_triples, is_table, led_by, three_on_a_line

from ovalfield.errors import NoCount, OnLine
from ovalfield.frames import frame_move

FLAT = [(1, 0, 0), (0, 1, 0), (1, 1, 0), (0, 0, 1)]
OTHER_FLAT = [(0, 0, 1), (1, 0, 0), (0, 1, 0), (1, 0, 1)]


class TestFrameMove(unittest.TestCase):
    def test_written_out(self):
        for p in PRIMES:
            self.assertEqual(frame_move(p, FRAME, FRAME), EVEN)
            turned = [FRAME[1], FRAME[2], FRAME[0], FRAME[3]]
            self.assertEqual(frame_move(p, FRAME, turned), ((0, 0, 1), (1, 0, 0), (0, 1, 0)))
        goals = [(1, 0, 0), (0, 1, 0), (0, 0, 1), (1, 2, 3)]
        self.assertEqual(frame_move(5, FRAME, goals), ((1, 0, 0), (0, 2, 0), (0, 0, 3)))
        self.assertEqual(frame_move(5, goals, FRAME), ((1, 0, 0), (0, 3, 0), (0, 0, 2)))

    def test_leads_the_four_in_their_order(self):
        for p in PRIMES:
            draws = Draws(p)
            for turn in range(300):
                four, goals = draws.frame(p), draws.frame(p)
                kept = (list(four), list(goals))
                told = frame_move(p, four, goals)
                self.assertTrue(is_table(p, told), (p, four, goals))
                self.assertEqual([led_by(p, told, point) for point in four], goals)
                self.assertEqual((four, goals), kept)
                self.assertEqual(frame_move(p, four, goals), told)

    def test_goals_by_a_table_give_that_table(self):
        for p in PRIMES:
            draws = Draws(20 + p)
            for turn in range(300):
                four, table = draws.frame(p), draws.table(p)
                self.assertEqual(frame_move(p, four, [led_by(p, table, point) for point in four]), table)

    def test_from_a_frame_to_itself(self):
        for p in PRIMES:
            draws = Draws(30 + p)
            for turn in range(100):
                four = draws.frame(p)
                self.assertEqual(frame_move(p, four, four), EVEN)
                self.assertEqual(frame_move(p, four, list(four)), EVEN)

    def test_not_four_are_refused(self):
        for p in PRIMES:
            draws = Draws(p)
            for count in (0, 1, 2, 3, 5, 6, 13):
                for other in (FRAME, FLAT, [FLAT[0]] * 4, [], FLAT + FRAME):
                    for points in (draws.unlike(p, count), [(1, 1, 1)] * count, (FLAT * 4)[:count]):
                        self.assertRaises(NoCount, frame_move, p, points, other)
                        self.assertRaises(NoCount, frame_move, p, other, points)

    def test_three_on_a_line_are_refused(self):
        for p in PRIMES:
            self.refuses(p, FLAT, FRAME, FLAT[:3])
            self.refuses(p, FRAME, FLAT, FLAT[:3])
            self.refuses(p, FLAT, OTHER_FLAT, FLAT[:3])
            self.refuses(p, OTHER_FLAT, FLAT, [(0, 0, 1), (1, 0, 0), (1, 0, 1)])
            self.refuses(p, FRAME, [FLAT[0], FLAT[3], FLAT[1], FLAT[2]], FLAT[:3])
            self.refuses(p, FRAME, [FRAME[3], FLAT[0], FLAT[1], FLAT[2]], FLAT[:3])

    def test_a_point_told_twice_is_refused(self):
        for p in PRIMES:
            one, other, third, last = FRAME
            self.refuses(p, [one, other, third, one], FRAME, [one, other, one])
            self.refuses(p, FRAME, [one, other, third, third], [one, third, third])
            self.refuses(p, [one, one, third, last], FLAT, [one, one, third])
            self.refuses(p, FRAME, [last] * 4, [last] * 3)

    def test_any_four_points(self):
        for p in PRIMES:
            draws = Draws(50 + p)
            for turn in range(200):
                four = [draws.chosen(all_triples(p)) for place in range(4)]
                goals = [draws.chosen(all_triples(p)) for place in range(4)]
                three = three_on_a_line(p, four) or three_on_a_line(p, goals)
                if three:
                    self.refuses(p, four, goals, three)
                else:
                    told = frame_move(p, four, goals)
                    self.assertEqual([led_by(p, told, point) for point in four], goals)

    def refuses(self, p, four, goals, three):
        kept = (list(four), list(goals))
        with self.assertRaises(OnLine) as caught:
            frame_move(p, four, goals)
        self.assertEqual(caught.exception.points, tuple(three))
        self.assertIs(type(caught.exception.points), tuple)
        self.assertEqual((four, goals), kept)


if __name__ == "__main__":
    unittest.main()
