import unittest

from samples import PRIMES, Draws, all_triples, form

from ovalfield.errors import NoPicture
from ovalfield.pictures import drawn, seen

# x z = y y by 5: where z is 1 the points (0, 0), (1, 1), (4, 2), (4, 3), (1, 4), and last (1, 0, 0).
PLAIN = [".#...", "....#", "....#", ".#...", "#....", "#....."]


def drawn_by(p, points):
    """The drawing by the words of the document."""
    texts = []
    for y in range(p - 1, -1, -1):
        texts.append("".join("#" if form(p, (x, y, 1)) in points else "." for x in range(p)))
    last = [(1, m, 0) for m in range(p)] + [(0, 1, 0)]
    return texts + ["".join("#" if point in points else "." for point in last)]


class TestDrawn(unittest.TestCase):
    def test_written_out(self):
        points = [(0, 0, 1), (1, 0, 0), (1, 1, 1), (1, 2, 4), (1, 3, 4), (1, 4, 1)]
        self.assertEqual(drawn(5, points), PLAIN)
        self.assertEqual(seen(5, PLAIN), points)
        self.assertEqual(drawn(3, [(0, 1, 0)]), ["...", "...", "...", "...#"])
        self.assertEqual(drawn(3, [(0, 0, 1)]), ["...", "...", "#..", "...."])
        self.assertEqual(drawn(3, [(1, 2, 1), (1, 2, 0)]), [".#.", "...", "...", "..#."])
        # The numbers (2, 1, 1) are the point (1, 2, 2).
        self.assertEqual(drawn(3, [(1, 2, 2)]), ["...", "..#", "...", "...."])

    def test_of_none_and_of_all(self):
        for p in PRIMES:
            self.assertEqual(drawn(p, []), ["." * p] * p + ["." * (p + 1)])
            self.assertEqual(drawn(p, all_triples(p)), ["#" * p] * p + ["#" * (p + 1)])

    def test_each_point_alone(self):
        for p in PRIMES:
            for point in all_triples(p):
                texts = drawn(p, [point])
                self.assertEqual(texts, drawn_by(p, [point]))
                self.assertEqual("".join(texts).count("#"), 1)
                self.assertEqual(seen(p, texts), [point])

    def test_points_in_any_order_and_told_twice(self):
        for p in PRIMES:
            draws = Draws(p)
            for count in range(0, 200, 7):
                points = [draws.chosen(all_triples(p)) for place in range(count)]
                kept = list(points)
                texts = drawn(p, points)
                self.assertIs(type(texts), list)
                self.assertEqual(texts, drawn_by(p, points))
                self.assertEqual(points, kept)
                self.assertEqual(drawn(p, points[::-1]), texts)
                self.assertEqual(drawn(p, sorted(set(points))), texts)
                kept_texts = list(texts)
                told = seen(p, texts)
                self.assertIs(type(told), list)
                self.assertEqual(told, sorted(set(points)))
                self.assertEqual(texts, kept_texts)

    def test_a_list_that_the_asker_changed(self):
        for p in PRIMES:
            points = [(1, 1, 1), (0, 1, 0)]
            texts = drawn(p, points)
            kept = list(texts)
            texts[0] = ""
            texts.append("?")
            self.assertEqual(drawn(p, points), kept)
            told = seen(p, kept)
            told.clear()
            self.assertEqual(seen(p, kept), sorted(points))


class TestSeen(unittest.TestCase):
    def test_refused(self):
        for p in PRIMES:
            draws = Draws(p)
            for points in ([], [(0, 1, 0)], draws.unlike(p, 5), all_triples(p)):
                good = drawn(p, points)
                self.assertEqual(seen(p, good), sorted(points))
                bad = [good[:-1], good[1:], good + [good[0]], good + [good[-1]], good + [""], [""] + good, good[::-1]]
                bad.append(good[-1:] + good[:-1])
                bad.append(good[:-2] + [good[-1], good[-2]])
                bad.append([])
                bad.append([""] * (p + 1))
                bad.append(["".join(good)])
                bad.append(["\n".join(good)] * (p + 1))
                for place, text in enumerate(good):
                    for other in (text + ".", text[:-1], "." + text, text + "\n", text + " ", "", text[:-1] + "*",
                                  "o" + text[1:], text[:-1] + " ", text[:-1] + "\uff03", "0" * len(text),
                                  "," + text[1:], text[:-1] + "X"):
                        bad.append(good[:place] + [other] + good[place + 1:])
                for texts in bad:
                    kept = list(texts)
                    self.assertRaises(NoPicture, seen, p, texts)
                    self.assertEqual(texts, kept)

    def test_a_drawing_by_another_prime(self):
        for p in PRIMES:
            for other in PRIMES:
                for points in ([], [(1, 1, 1)], all_triples(other)):
                    if other != p:
                        self.assertRaises(NoPicture, seen, p, drawn(other, points))

    def test_every_drawing_is_seen_and_drawn_again(self):
        for p in PRIMES:
            draws = Draws(9 * p)
            for turn in range(40):
                texts = ["".join("#."[draws.below(2)] for sign in range(p)) for row in range(p)]
                texts.append("".join("#."[draws.below(2)] for sign in range(p + 1)))
                self.assertEqual(drawn(p, seen(p, texts)), texts)


if __name__ == "__main__":
    unittest.main()
