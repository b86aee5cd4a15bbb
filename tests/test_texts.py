import unittest

from samples import PRIMES, all_rows, all_triples, form

from ovalfield.errors import BadRow
from ovalfield.texts import read_all, read_one
from ovalfield.triples import Line, Point

BAD = (
    "", " ", "(", ")", "()", "[]", "( )", "(  )", "1 0 1", "0", "none",
    "[1 0 1)", "(1 0 1]", "{1 0 1}", "<1 0 1>", "((1 0 1))", "([1 0 1])", ")1 0 1(", "]1 0 1[", "|1 0 1|",
    "(1 0 1", "1 0 1)", "[1 0 1", "1 0 1]", "(1 0 1))", "((1 0 1)", "(1 0 1)(1 0 1)", "(1 0 1) (1 0 1)",
    "(1  0 1)", "(1 0  1)", "( 1 0 1)", "(1 0 1 )", " (1 0 1)", "(1 0 1) ", "[ 1 0 1]", "[1 0 1] ", "[1  0 1]",
    "(1\t0 1)", "(1\n0 1)", "(1 0 1)\n", "\n(1 0 1)", "(1\u00a00 1)", "(1,0,1)", "(1, 0, 1)", "(1;0;1)", "(101)",
    "(01 0 1)", "(1 00 1)", "(1 0 01)", "[01 0 1]", "(000 0 1)", "(1 0 001)",
    "(+1 0 1)", "(1 -0 1)", "(1 0 -1)", "[-1 0 1]", "(1 0 1.0)", "(1.0 0 1)", "(1 0 1e0)", "(1_0 0 1)", "(0x1 0 1)",
    "(a 0 1)", "(1 b 1)", "(1 0 O)", "[1 l 1]", "(1 ? 1)", "(1  1)", "(1 0 )", "( 0 1)",
    "(1)", "(1 0)", "(1 0 1 0)", "[1]", "[1 0]", "[1 0 1 0]", "(1 0 1 0 1)",
    "(0 0 0)", "[0 0 0]",
    "(1 0 12)", "(13 0 1)", "[1 99 0]", "(1 0 " + "1" * 60 + ")", "(1 0 1" + " " * 200 + ")", "(" + "1 0 1 " * 40 + ")",
    # Figures that are not 0 to 9: Arabic, raised, full-width, Devanagari, circled, Roman.
    "(\u0661 0 1)", "(1 \u0660 1)", "(1 0 \u00b9)", "(\uff11 0 1)", "[1 \uff10 1]", "(\u0967 0 1)", "(\u2460 0 1)",
    "(\u2160 0 1)", "(1 0 \u00b2)",
    "\uff081 0 1\uff09", "\uff3b1 0 1\uff3d",
)


def bad_texts(p):
    """Besides the bad ones by every prime those with a rest that is p or greater."""
    great = [p, p + 1, 2 * p, 10 * p, 10 ** 59 + 1]
    rows = [f"{n} 0 1" for n in great] + [f"1 {n} 0" for n in great] + [f"0 1 {n}" for n in great]
    rows += [f"{n} {n} {n}" for n in great]
    return list(BAD) + [f"({row})" for row in rows] + [f"[{row}]" for row in rows]


class TestReadOne(unittest.TestCase):
    def test_written_out(self):
        point = read_one(11, "(1 0 10)")
        self.assertEqual((type(point), point.told(), point.shown()), (Point, (1, 0, 10), "(1 0 10)"))
        line = read_one(5, "[0 3 4]")
        self.assertEqual((type(line), line.told(), line.shown()), (Line, (0, 1, 3), "[0 1 3]"))
        self.assertEqual(read_one(11, "(10 10 10)").told(), (1, 1, 1))

    def test_what_is_shown_is_read_as_the_same(self):
        for p in PRIMES:
            for kind in (Point, Line):
                for triple in all_triples(p):
                    text = kind(p, triple).shown()
                    read = read_one(p, text)
                    self.assertIs(type(read), kind)
                    self.assertEqual(read.told(), triple)
                    self.assertEqual(read.shown(), text)

    def test_rests_not_in_one_form(self):
        for p in PRIMES:
            for x, y, z in all_rows(p):
                for text, kind in ((f"({x} {y} {z})", Point), (f"[{x} {y} {z}]", Line)):
                    read = read_one(p, text)
                    self.assertIs(type(read), kind)
                    self.assertEqual(read.told(), form(p, (x, y, z)))
                    self.assertEqual(read_one(p, text).told(), read.told())

    def test_what_is_read_can_be_asked(self):
        for p in PRIMES:
            line = read_one(p, "(1 0 1)").across(read_one(p, "(0 2 0)"))
            self.assertEqual(line.shown(), f"[1 0 {p - 1}]")
            self.assertIs(read_one(p, "[1 0 0]").meets(read_one(p, "(0 1 2)")), True)

    def test_refused(self):
        for p in PRIMES:
            for text in bad_texts(p):
                with self.assertRaises(BadRow, msg=(p, text)) as caught:
                    read_one(p, text)
                self.assertEqual(caught.exception.row, 0)
                self.assertIs(type(caught.exception.row), int)

    def test_a_rest_that_is_p_is_refused_and_the_one_below_read(self):
        for p in PRIMES:
            self.assertEqual(read_one(p, f"(1 0 {p - 1})").told(), (1, 0, p - 1))
            self.assertRaises(BadRow, read_one, p, f"(1 0 {p})")
        self.assertEqual(read_one(11, "(1 0 7)").told(), (1, 0, 7))
        self.assertRaises(BadRow, read_one, 7, "(1 0 7)")

    def test_every_sign_alone_in_a_rests_place(self):
        for p in PRIMES:
            figures = [str(n) for n in range(p)]
            for code in range(0x3000):
                sign = chr(code)
                if sign in figures:
                    self.assertEqual(read_one(p, f"(1 {sign} 1)").told(), (1, int(sign), 1))
                else:
                    self.assertRaises(BadRow, read_one, p, f"(1 {sign} 1)")


class TestReadAll(unittest.TestCase):
    def test_of_no_texts(self):
        for p in PRIMES:
            told = read_all(p, [])
            self.assertEqual(told, [])
            told.append(1)
            self.assertEqual(read_all(p, []), [])

    def test_points_and_lines_in_their_order(self):
        for p in PRIMES:
            texts = [f"({x} {y} {z})" if (x + y) % 2 else f"[{x} {y} {z}]" for x, y, z in all_rows(p)][:200]
            kept = list(texts)
            told = read_all(p, texts)
            self.assertIs(type(told), list)
            self.assertEqual(texts, kept)
            self.assertEqual([type(thing) for thing in told], [Line if text[0] == "[" else Point for text in texts])
            self.assertEqual([thing.told() for thing in told], [read_one(p, text).told() for text in texts])

    def test_the_same_text_twice(self):
        for p in PRIMES:
            told = read_all(p, ["(0 2 1)", "[0 2 1]", "(0 2 1)"])
            self.assertEqual([thing.shown()[0] for thing in told], ["(", "[", "("])
            self.assertEqual(len({thing.told() for thing in told}), 1)

    def test_the_first_that_is_none(self):
        for p in PRIMES:
            for bad in bad_texts(p):
                for ahead in (0, 1, 2, 7):
                    texts = ["(1 0 1)", "[0 1 2]"] * 4
                    texts = texts[:ahead] + [bad, "(1 1 1)", bad, "(0 0 0)"]
                    kept = list(texts)
                    with self.assertRaises(BadRow, msg=(p, bad)) as caught:
                        read_all(p, texts)
                    self.assertEqual(caught.exception.row, ahead)
                    self.assertEqual(texts, kept)

    def test_the_last_of_two_hundred(self):
        for p in PRIMES:
            with self.assertRaises(BadRow) as caught:
                read_all(p, ["(1 0 1)"] * 199 + [f"(1 0 {p})"])
            self.assertEqual(caught.exception.row, 199)
            self.assertEqual(len(read_all(p, ["(1 0 1)"] * 200)), 200)

    def test_each_list_is_the_askers_own(self):
        for p in PRIMES:
            texts = ["(1 0 1)", "[1 0 1]"]
            told = read_all(p, texts)
            told.reverse()
            told.append(None)
            texts[0] = "(0 0 1)"
            self.assertEqual([thing.shown() for thing in told[:2]], ["[1 0 1]", "(1 0 1)"])
            self.assertEqual([thing.shown() for thing in read_all(p, texts)], ["(0 0 1)", "[1 0 1]"])


if __name__ == "__main__":
    unittest.main()
