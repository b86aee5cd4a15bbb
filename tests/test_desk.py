import unittest

from samples import (
    PRIMES, SHUT, Draws, all_rows, all_triples, curve_points, curves_of_all_sorts, fits, form, three_on_a_line,
    value_by, whole_curves,
)

from ovalfield.desk import Desk
from ovalfield.errors import Alike, NoCount, NoCurve, NoRow, NothingDone, NoTriple, NotOn, NotWhole, OnLine, TooMany
from ovalfield.kinds import kind
from ovalfield.pictures import drawn
from ovalfield.poles import polar, pole, side
from ovalfield.sets import grown, look
from ovalfield.through import curve_through


def words(numbers):
    return " ".join(str(n) for n in numbers)


def point_text(point):
    return f"({words(point)})"


def line_text(line):
    return f"[{words(line)}]"


def desk_of(p, points, curve=None):
    desk = Desk(p)
    for point in points:
        desk.say("put " + words(point))
    if curve is not None:
        desk.say("curve " + words(curve))
    return desk


def state(desk):
    """All that can be asked of a desk without changing it, but for what undo takes back."""
    try:
        told = desk.say("kind")
    except NoCurve:
        told = None
    return (desk.say("points"), told, desk.say("look"), desk.say("draw"))


def undone_states(desk):
    """What a desk comes back to, undo by undo; the desk is used up by it."""
    states = [state(desk)]
    while True:
        try:
            desk.say("undo")
        except NothingDone:
            return states
        states.append(state(desk))


class Desks(unittest.TestCase):
    def refuses(self, make, row, refusal, triple=None, points=None):
        """That the row is refused, and that behind it the desk and its past are as they were."""
        desk = make()
        with self.assertRaises(refusal, msg=row) as caught:
            desk.say(row)
        self.assertIs(type(caught.exception), refusal)
        if triple is not None:
            self.assertEqual(caught.exception.triple, triple)
        if points is not None:
            self.assertEqual(caught.exception.points, points)
        self.assertEqual(undone_states(desk), undone_states(make()))


class TestList(Desks):
    def test_put_take_and_points(self):
        for p in PRIMES:
            desk = Desk(p)
            self.assertEqual(desk.say("points"), [])
            self.assertEqual(desk.say("put 1 0 1"), ["1"])
            self.assertEqual(desk.say("put 0 2 1"), ["2"])
            self.assertEqual(desk.say(f"put 0 0 {p - 1}"), ["3"])
            second = point_text(form(p, (0, 2, 1)))
            self.assertEqual(desk.say("points"), ["(1 0 1)", second, "(0 0 1)"])
            self.assertEqual(desk.say(f"take 0 {p - 2} {p - 1}"), ["2"])
            self.assertEqual(desk.say("points"), ["(1 0 1)", "(0 0 1)"])
            self.assertEqual(desk.say("put 0 2 1"), ["3"])
            self.assertEqual(desk.say("points"), ["(1 0 1)", "(0 0 1)", second])
            self.assertEqual(desk.say("take 1 0 1"), ["2"])
            self.assertEqual(desk.say("take 0 0 1"), ["1"])
            self.assertEqual(desk.say("take 0 2 1"), ["0"])
            self.assertEqual(desk.say("points"), [])

    def test_every_three_rests(self):
        for p in PRIMES:
            desk = Desk(p)
            for row in all_rows(p):
                self.assertEqual(desk.say("put " + words(row)), ["1"])
                self.assertEqual(desk.say("points"), [point_text(form(p, row))])
                self.assertEqual(desk.say("take " + words(form(p, row))), ["0"])

    def test_grow(self):
        for p in PRIMES:
            draws = Draws(p)
            for turn in range(10):
                points = draws.arc(p, turn)
                desk = desk_of(p, points)
                told = grown(p, points)
                self.assertEqual(desk.say("grow"), [str(len(told))])
                self.assertEqual(desk.say("points"), [point_text(point) for point in told])
                self.assertEqual(desk.say("grow"), [str(len(told))])

    def test_look(self):
        for p in PRIMES:
            draws = Draws(3 * p)
            self.assertEqual(Desk(p).say("look"), ["more (0 0 1)"])
            line = desk_of(p, [(1, 0, 0), (0, 0, 1), (0, 1, 0), (1, 2, 0)])
            self.assertEqual(line.say("look"), ["line (1 0 0) (0 1 0) (1 2 0)"])
            for curve in whole_curves(p, 4):
                desk = desk_of(p, draws.mixed(curve_points(p, curve)))
                self.assertEqual(desk.say("look"), ["curve " + words(curve)])
            for turn in range(12):
                points = draws.arc(p, turn % (p + 1))
                told = look(p, points)
                if told[0] == "more":
                    self.assertEqual(desk_of(p, points).say("look"), ["more " + point_text(told[1])])
        for p, points in SHUT.items():
            self.assertEqual(desk_of(p, points).say("look"), [f"ends {p * p + p + 1 - len(points)}"])

    def test_draw(self):
        for p in PRIMES:
            draws = Draws(5 * p)
            for count in (0, 1, 5, 12):
                points = draws.unlike(p, count)
                self.assertEqual(desk_of(p, points).say("draw"), drawn(p, points))
        self.assertEqual(desk_of(3, [(1, 2, 1), (1, 2, 0)]).say("draw"), [".#.", "...", "...", "..#."])

    def test_what_is_told_is_the_asker_s_own(self):
        for p in PRIMES:
            desk = desk_of(p, [(1, 0, 0), (0, 1, 0)], (0, 1, 0, 0, p - 1, 0))
            for row in ("points", "draw", "look", "kind", "side 1 0 0"):
                told = desk.say(row)
                kept = list(told)
                told.reverse()
                told.append("put 1 1 1")
                told[0] = None
                self.assertEqual(desk.say(row), kept)
            before = desk.say("points")
            desk.say("put 1 1 1")
            self.assertEqual(before, ["(1 0 0)", "(0 1 0)"])


class TestCurve(Desks):
    def test_curve(self):
        for p in PRIMES:
            desk = Desk(p)
            self.assertEqual(desk.say(f"curve 0 2 0 0 {p - 2} 0"), [f"curve 0 1 0 0 {p - 1} 0"])
            self.assertEqual(desk.say("points"), [])
            draws = Draws(p)
            for turn in range(60):
                row = draws.row(p, 6)
                if any(row):
                    self.assertEqual(desk.say("curve " + words(row)), ["curve " + words(form(p, row))])

    def test_five(self):
        for p in PRIMES:
            draws = Draws(p)
            for turn in range(40):
                points = draws.unlike(p, 5)
                try:
                    curve = curve_through(p, points)
                except OnLine as refusal:
                    self.refuses(lambda: desk_of(p, points), "five", OnLine, points=refusal.points)
                    continue
                desk = desk_of(p, points)
                self.assertEqual(desk.say("five"), ["curve " + words(curve)])
                self.assertEqual(desk.say("kind"), desk_of(p, [], curve).say("kind"))
                self.assertEqual(desk.say("points"), [point_text(point) for point in points])
            # The curve stays where the list goes on, and a new one comes in its place.
            points = [(1, 0, 0), (0, 1, 0), (1, 1, 0), (0, 0, 1), (1, 0, 1)]
            desk = desk_of(p, points, (1, 0, 0, 0, 0, 0))
            self.assertEqual(desk.say("kind"), ["twice [1 0 0]"])
            self.assertEqual(desk.say("five"), ["curve 0 0 0 0 0 1"])
            desk.say("take 1 0 1")
            self.assertEqual(desk.say("kind"), ["lines [0 0 1] [0 1 0]"])

    def test_kind(self):
        for p in PRIMES:
            for sort, curve in curves_of_all_sorts(p, 12):
                told = kind(p, curve)
                text = {
                    "point": lambda: "point " + point_text(told[1]),
                    "twice": lambda: "twice " + line_text(told[1]),
                    "lines": lambda: "lines " + line_text(told[1]) + " " + line_text(told[2]),
                    "whole": lambda: "whole",
                }[sort]()
                self.assertEqual(desk_of(p, [], curve).say("kind"), [text])
        self.assertEqual(desk_of(7, [], (1, 1, 0, 0, 0, 0)).say("kind"), ["point (0 0 1)"])

    def test_side_polar_and_pole(self):
        for p in PRIMES:
            for curve in whole_curves(p, 1):
                desk = desk_of(p, [], curve)
                for triple in all_triples(p):
                    twice = words(2 * n % p for n in triple)
                    self.assertEqual(desk.say("side " + twice), [side(p, curve, triple)])
                    self.assertEqual(desk.say("polar " + twice), [line_text(polar(p, curve, triple))])
                    self.assertEqual(desk.say("pole " + twice), [point_text(pole(p, curve, triple))])
                    self.assertEqual(desk.say("side " + twice) == ["on"], value_by(p, curve, triple) == 0)

    def test_written_out(self):
        for p in PRIMES:
            desk = desk_of(p, [], (0, 1, 0, 0, p - 1, 0))
            self.assertEqual(desk.say("side 0 1 0"), ["outer"])
            self.assertEqual(desk.say("side 1 1 1"), ["on"])
            self.assertEqual(desk.say("polar 1 0 0"), ["[0 0 1]"])
            self.assertEqual(desk.say("pole 0 0 2"), ["(1 0 0)"])
            self.assertEqual(desk.say("kind"), ["whole"])


class TestRefused(Desks):
    def makers(self, p):
        plain = (0, 1, 0, 0, p - 1, 0)
        return (
            lambda: Desk(p),
            lambda: desk_of(p, [(1, 0, 0), (0, 1, 0)]),
            lambda: desk_of(p, [(1, 0, 0), (0, 1, 0), (1, 1, 0)], plain),
            lambda: desk_of(p, [(1, 1, 1)], (1, 0, 0, 0, 0, 0)),
        )

    def test_rows_that_are_none(self):
        for p in PRIMES:
            rows = [
                "", " ", "  ", "nothing", "put", "put 1", "put 1 0", "put 1 0 0 1", "put  1 0 0", "put 1  0 0",
                "put 1 0  0", "put 1 0 0 ", " put 1 0 0", "Put 1 1 2", "PUT 1 1 2", "put 01 1 2", "put 1 1 02",
                "put -1 1 2", "put +1 1 2", "put 1 1 x", "put (1 1 2)", "put 1,1,2", "put\t1 1 2", "put 1 1 2\n",
                "\nput 1 1 2", f"put 1 1 {p}", f"put {p} {p} {p}", f"put {p + 1} 1 2", "put 1 1 2.0", "put 1 1 \u0661",
                "put 1 1 \u00b2", "put 0 0", "put 0 0 0 0", "put 00 0 0", "1 1 2", "put put 1 1 2", "put 1 1 2 put",
                "take", "take 1 0", "take 1 0 0 0", f"take 1 0 {p}", "TAKE 1 0 0", "take  1 0 0", "take 0 0",
                "grow 1", "grow ", " grow", "Grow", "GROW", "grown", "grow grow", "five 5", "five ", "Five", "fives",
                "curve", "curve 1 0 0", "curve 0 1 0 0 1", "curve 0 1 0 0 1 0 0", f"curve 0 1 0 0 {p} 0",
                "curve 0 1 0 0 01 0", "curve 0 0 0 0 0", "curve 0 0 0 0 0 0 0", "Curve 0 1 0 0 1 0",
                "curve 0 1 0 0 1 0 ",
                "undo 1", "undo ", "Undo", "UNDO", "undo undo", "points 1", "Points", "points ", "point", "look 1",
                "Look", "look ", "draw 1", "Draw", "draw ", "kind 1", "Kind", "kind ", "kinds",
                "side", "side 1 0", "side 1 0 0 0", f"side 1 0 {p}", "Side 1 0 0", "side  1 0 0", "side 0 0",
                "polar", "polar 1 0", "polar 1 0 0 0", f"polar 1 0 {p}", "Polar 1 0 0", "polar 0 0 0 0",
                "pole", "pole 1 0", "pole 1 0 0 0", f"pole 1 0 {p}", "Pole 1 0 0", "poles 1 0 0", "put" + " 0" * 140,
            ]
            for make in self.makers(p):
                for row in rows:
                    self.refuses(make, row, NoRow)

    def test_noughts(self):
        for p in PRIMES:
            for make in self.makers(p):
                for word in ("put", "take", "side", "polar", "pole"):
                    self.refuses(make, word + " 0 0 0", NoTriple)
                self.refuses(make, "curve 0 0 0 0 0 0", NoCurve)

    def test_without_a_curve(self):
        for p in PRIMES:
            for make in self.makers(p)[:2]:
                for row in ("kind", "side 1 0 0", "polar 1 0 0", "pole 1 0 0"):
                    self.refuses(make, row, NoCurve)

    def test_put_of_one_that_is_there(self):
        for p in PRIMES:
            for point in all_triples(p)[::5]:
                for row in (point, [2 * n % p for n in point]):
                    self.refuses(lambda: desk_of(p, [point, (0, 1, 2)] if point != (0, 1, 2) else [point]),
                                 "put " + words(row), Alike, triple=point)

    def test_put_of_a_thirty_first(self):
        for p in (5, 7, 11):
            points = Draws(p).unlike(p, 31)
            full = desk_of(p, points[:30])
            self.assertEqual(len(full.say("points")), 30)
            self.refuses(lambda: desk_of(p, points[:30]), "put " + words(points[30]), TooMany)
            self.refuses(lambda: desk_of(p, points[:30]), "put " + words(points[7]), Alike, triple=points[7])
            self.assertEqual(full.say("take " + words(points[0])), ["29"])
            self.assertEqual(full.say("put " + words(points[30])), ["30"])
            self.assertRaises(TooMany, full.say, "put " + words(points[0]))
            self.assertEqual(full.say("undo"), ["29"])
        # By 3 there are but thirteen points, which all can be put.
        self.assertEqual(len(desk_of(3, all_triples(3)).say("points")), 13)

    def test_take_of_one_that_is_not_there(self):
        for p in PRIMES:
            for make in self.makers(p):
                self.refuses(make, "take 0 0 2", NotOn, triple=(0, 0, 1))
            again = desk_of(p, [(1, 0, 0)])
            again.say("take 1 0 0")
            with self.assertRaises(NotOn) as caught:
                again.say("take 2 0 0")
            self.assertEqual(caught.exception.triple, (1, 0, 0))

    def test_grow_and_five(self):
        for p in PRIMES:
            draws = Draws(p)
            for turn in range(12):
                points = draws.unlike(p, 3 + turn % 8)
                three = three_on_a_line(p, points)
                if three is not None:
                    self.refuses(lambda: desk_of(p, points), "grow", OnLine, points=three)
            for count in (0, 1, 4, 6, 9):
                some = draws.unlike(p, count)
                self.refuses(lambda: desk_of(p, some), "five", NoCount)
            line = [(1, 0, 0), (0, 1, 0), (0, 0, 1), (1, 1, 0), (1, 2, 0)]
            four = tuple(line[:2] + line[3:])
            self.refuses(lambda: desk_of(p, line, (1, 0, 0, 0, 0, 0)), "five", OnLine, points=four)

    def test_not_whole(self):
        for p in PRIMES:
            for sort, curve in curves_of_all_sorts(p, 2):
                if sort != "whole":
                    for word in ("side", "polar", "pole"):
                        self.refuses(lambda: desk_of(p, [(1, 0, 0)], curve), word + " 1 0 0", NotWhole)
                        self.refuses(lambda: desk_of(p, [(1, 0, 0)], curve), word + " 0 0 0", NoTriple)


class TestUndo(Desks):
    def test_nothing_done(self):
        for p in PRIMES:
            desk = Desk(p)
            self.assertRaises(NothingDone, desk.say, "undo")
            for row in ("points", "look", "draw"):
                desk.say(row)
            self.assertRaises(NothingDone, desk.say, "undo")
            desk.say("put 1 0 0")
            self.assertEqual(desk.say("undo"), ["0"])
            self.assertRaises(NothingDone, desk.say, "undo")
            self.assertEqual(desk.say("put 1 0 0"), ["1"])

    def test_each_of_the_five(self):
        for p in PRIMES:
            rows = ["put 1 0 0", "put 0 1 0", "take 1 0 0", "put 1 1 0", "curve 1 0 0 0 0 0", "put 0 0 1", "put 1 0 1",
                    "put 1 0 0", "five", "take 1 1 0", "take 1 0 1", "grow", "grow", "curve 0 1 0 0 1 0",
                    "curve 0 1 0 0 1 0"]
            desk = Desk(p)
            states = [state(desk)]
            for row in rows:
                desk.say(row)
                states.append(state(desk))
            counts = [str(len(told[0])) for told in states]
            for place in range(len(rows) - 1, -1, -1):
                self.assertEqual(desk.say("undo"), [counts[place]])
                self.assertEqual(state(desk), states[place], rows[place])
            self.assertRaises(NothingDone, desk.say, "undo")

    def test_a_grow_that_puts_no_point_in_counts(self):
        for p in PRIMES:
            desk = desk_of(p, curve_points(p, (0, 1, 0, 0, p - 1, 0)))
            self.assertEqual(desk.say("grow"), [str(p + 1)])
            self.assertEqual(desk.say("grow"), [str(p + 1)])
            self.assertEqual(desk.say("undo"), [str(p + 1)])
            self.assertEqual(desk.say("undo"), [str(p + 1)])
            self.assertEqual(desk.say("undo"), [str(p)])

    def test_any_rows(self):
        for p in PRIMES:
            draws = Draws(p)
            for run in range(3):
                self.run_by_chance(p, draws)

    def run_by_chance(self, p, draws):
        """Rows of all kinds by turns, held against the list and the curve kept beside them."""
        desk, points, curve, past = Desk(p), [], None, []
        for turn in range(150):
            word = draws.chosen(("put", "put", "put", "take", "grow", "five", "curve", "undo", "undo"))
            point, six = draws.chosen(all_triples(p)), form(p, draws.row(p, 6)) or (1, 0, 0, 0, 0, 0)
            behind = {"put": point, "take": point, "curve": six}.get(word, ())
            row = " ".join([word] + [str(n) for n in behind])
            ahead = (list(points), curve)
            if word == "put" and point not in points and len(points) < 30:
                points = points + [point]
            elif word == "take" and point in points:
                points = [other for other in points if other != point]
            elif word == "grow" and three_on_a_line(p, points) is None:
                while fits(p, points):
                    points = points + fits(p, points)[:1]
            elif word == "curve":
                curve = six
            elif word == "five" and self.five(p, points):
                curve = self.five(p, points)
            elif word == "undo" and past:
                points, curve = past.pop()
                self.assertEqual(desk.say(row), [str(len(points))])
                self.same(p, desk, points, curve)
                continue
            else:
                self.assertRaises((Alike, TooMany, NotOn, OnLine, NoCount, NothingDone), desk.say, row)
                self.same(p, desk, points, curve)
                continue
            past.append(ahead)
            curve_row = word in ("five", "curve")
            self.assertEqual(desk.say(row), ["curve " + words(curve)] if curve_row else [str(len(points))])
            self.same(p, desk, points, curve)

    def five(self, p, points):
        try:
            return curve_through(p, points)
        except (NoCount, OnLine):
            return None

    def same(self, p, desk, points, curve):
        self.assertEqual(desk.say("points"), [point_text(point) for point in points])
        if curve is None:
            self.assertRaises(NoCurve, desk.say, "kind")
        else:
            self.assertEqual(desk.say("kind"), desk_of(p, [], curve).say("kind"))


class TestTwoDesks(Desks):
    def test_they_change_nothing_of_each_other(self):
        for p in PRIMES:
            one, other = Desk(p), Desk(p)
            one.say("put 1 0 0")
            one.say("curve 1 0 0 0 0 0")
            self.assertEqual(other.say("points"), [])
            self.assertRaises(NoCurve, other.say, "kind")
            self.assertRaises(NothingDone, other.say, "undo")
            other.say("put 0 1 0")
            other.say("grow")
            self.assertEqual(one.say("points"), ["(1 0 0)"])
            self.assertEqual(one.say("kind"), ["twice [1 0 0]"])
            self.assertEqual(one.say("undo"), ["1"])
            self.assertEqual(one.say("undo"), ["0"])
            self.assertEqual(other.say("undo"), ["1"])

    def test_of_two_primes(self):
        three, eleven = Desk(3), Desk(11)
        eleven.say("put 1 0 10")
        self.assertRaises(NoRow, three.say, "put 1 0 10")
        self.assertEqual(eleven.say("points"), ["(1 0 10)"])
        self.assertEqual((len(three.say("draw")), len(eleven.say("draw"))), (4, 12))


if __name__ == "__main__":
    unittest.main()
