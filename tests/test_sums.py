import copy
import math
import unittest
from fractions import Fraction
from math import gcd

from cutandlaid.errors import OnEdge
from cutandlaid.sums import covers, edge_sums, level_at, level_sums
from tests.helpers import (TURNS, area_of, at, carried, carried_polygon, place_of, pts, random_figure,
                           random_paper, rect, seeded, split, xy)

HALF = Fraction(1, 2)
SQUARE = [rect(0, 0, 2, 2)]
TRIANGLE = pts((0, 0), (4, 0), (1, 2))
# The same square, told by other polygons.
SQUARES = [SQUARE, [rect(0, 0, 1, 2), rect(1, 0, 2, 2)], [pts((0, 0), (2, 0), (2, 2)), pts((0, 0), (2, 2), (0, 2))],
           [pts((0, 0), (2, 0), (1, 1)), pts((1, 1), (2, 0), (2, 2)), pts((0, 2), (1, 1), (2, 2)),
            pts((0, 0), (1, 1), (0, 2))], [rect(0, HALF, 2, 2), rect(0, 0, 1, HALF), rect(1, 0, 2, HALF)]]


def fraction(a):
    return Fraction(a[0], a[1])


def is_number(a):
    return (type(a) is tuple and len(a) == 2 and all(type(n) is int for n in a)
            and a[1] >= 1 and gcd(a[0], a[1]) == 1)


def edges(figure):
    for polygon in figure:
        places = [xy(p) for p in polygon]
        yield from zip(places, places[1:] + places[:1])


def laid(paper):
    return [carried_polygon(motion, polygon) for polygon, motion in paper]


class EdgeSums(unittest.TestCase):
    def expected(self, figure):
        sums = {}
        for (x, y), (u, v) in edges(figure):
            dx, dy = u - x, v - y
            many = math.lcm(dx.denominator, dy.denominator)
            p, q = int(dx * many), int(dy * many)
            t = Fraction(gcd(p, q), many)
            p, q = p // gcd(p, q), q // gcd(p, q)
            if q < 0 or q == 0 and p < 0:
                p, q, t = -p, -q, -t
            sums[p, q] = sums.get((p, q), 0) + t
        return [((p, q), (t.numerator, t.denominator)) for (p, q), t in sorted(sums.items()) if t]

    def judge(self, figure):
        answer = edge_sums(figure)
        self.assertEqual(answer, self.expected(figure))
        for (p, q), t in answer:
            self.assertTrue(is_number(t) and t[0] != 0)
            self.assertTrue(gcd(p, q) == 1 and (q > 0 or (p, q) == (1, 0)))
        return answer

    def test_by_hand(self):
        self.assertEqual(edge_sums([]), [])
        self.assertEqual(edge_sums(SQUARE), [])
        self.assertEqual(edge_sums([TRIANGLE]), [((-3, 2), (1, 1)), ((1, 0), (4, 1)), ((1, 2), (-1, 1))])
        self.assertEqual(edge_sums([pts((0, 0), (HALF, 0), (0, Fraction(1, 3)))]),
                         [((-3, 2), (1, 6)), ((0, 1), (-1, 3)), ((1, 0), (1, 2))])

    def test_the_order_is_that_of_tuples(self):
        figure = [pts((0, 0), (2, -3), (5, 0), (4, 6), (1, 5))]
        directions = [direction for direction, _ in self.judge(figure)]
        self.assertEqual(directions, [(-2, 3), (-1, 6), (1, 1), (1, 5), (3, 1)])

    def test_level_and_upright_edges(self):
        house = [rect(0, 0, 2, 1), pts((0, 1), (2, 1), (2, 3))]
        self.assertEqual(self.judge(house), [((0, 1), (2, 1)), ((1, 0), (2, 1)), ((1, 1), (-2, 1))])
        self.assertEqual(self.judge([carried_polygon((2, at(0, 0)), p) for p in house]),
                         [((0, 1), (-2, 1)), ((1, 0), (-2, 1)), ((1, 1), (2, 1))])

    def test_edges_along_each_other(self):
        # They undo each other, also where they only lie along each other in part.
        self.assertEqual(self.judge([TRIANGLE, rect(1, -1, 2, 0)]), edge_sums([TRIANGLE]))
        self.assertEqual(self.judge([TRIANGLE, pts((0, 0), (2, -5), (4, 0))])[0][0], (-3, 2))
        self.assertNotIn((1, 0), [d for d, _ in self.judge([TRIANGLE, pts((0, 0), (2, -5), (4, 0))])])
        for figure in SQUARES:
            self.assertEqual(self.judge(figure), [])

    def test_edges_far_from_each_other_undo_each_other(self):
        far = carried_polygon((2, at(50, 7)), TRIANGLE)
        self.assertEqual(self.judge([TRIANGLE, far]), [])

    def test_many(self):
        source = seeded(91)
        for many in (1, 3, 6):
            for _ in range(8):
                figure = random_figure(source, many)
                finer = [part for polygon in figure for part in split(source, polygon, 2)]
                self.assertEqual(self.judge(finer), self.judge(figure))

    def test_they_stay_when_pieces_are_slid(self):
        source = seeded(92)
        for group in ("level", "grid", "free"):
            figure = random_figure(source, 3)
            self.assertEqual(edge_sums(laid(random_paper(source, figure, group))), edge_sums(figure))

    def test_a_half_turn_counts_the_other_way(self):
        source = seeded(93)
        figure = random_figure(source, 3)
        turned = [carried_polygon((2, at(1, HALF)), polygon) for polygon in figure]
        self.assertEqual(edge_sums(turned), [(d, (-n, m)) for d, (n, m) in edge_sums(figure)])
        self.assertNotEqual(edge_sums(turned), edge_sums(figure))


def told_at(figure, y):
    """The width, and the crossings by their slopes, by the edges that cross a level line."""
    width, counts = Fraction(0), {}
    for (x, low), (u, high) in edges(figure):
        if min(low, high) < y < max(low, high):
            slope = (u - x) / (high - low)
            way = 1 if high > low else -1
            counts[slope] = counts.get(slope, 0) + way
            width += way * (x + slope * (y - low))
    return width, [(slope, counts[slope]) for slope in sorted(counts) if counts[slope]]


def heights(figure):
    return sorted({xy(p)[1] for polygon in figure for p in polygon})


class LevelAt(unittest.TestCase):
    def judge(self, figure, y):
        width, crossings = level_at(figure, (y.numerator, y.denominator))
        self.assertTrue(is_number(width))
        self.assertIs(type(crossings), list)
        self.assertTrue(all(is_number(slope) and type(count) is int for slope, count in crossings))
        self.assertEqual((fraction(width), [(fraction(slope), count) for slope, count in crossings]),
                         told_at(figure, y))
        return width, crossings

    def test_by_hand(self):
        self.assertEqual(level_at([TRIANGLE], (1, 1)), ((2, 1), [((-3, 2), 1), ((1, 2), -1)]))
        self.assertEqual(level_at(SQUARE, (1, 3)), ((2, 1), []))
        slanted = pts((0, 0), (1, 0), (3, 2), (2, 2))
        self.assertEqual(level_at([slanted], (1, 1)), ((1, 1), []))
        self.assertEqual(level_at([slanted, pts((-5, 0), (-4, 0), (-5, 1))], (1, 2)),
                         ((3, 2), [((-1, 1), 1), ((0, 1), -1)]))

    def test_above_and_below(self):
        for y in ((-1, 1), (3, 1), (10 ** 20, 1), (-1, 10 ** 20), (2 * 10 ** 20 + 1, 10 ** 20)):
            for figure in ([], [TRIANGLE], SQUARE):
                self.assertEqual(level_at(figure, y), ((0, 1), []))

    def test_on_the_height_of_a_corner(self):
        figure = [TRIANGLE, rect(10, HALF, 11, Fraction(7, 5)), pts((20, -9), (21, -8), (20, -7))]
        for y in ((0, 1), (2, 1), (1, 2), (7, 5), (-9, 1), (-8, 1), (-7, 1)):
            with self.assertRaises(OnEdge):
                level_at(figure, y)
        level_at(figure, (1, 3))
        self.assertEqual(level_at([], (0, 1)), ((0, 1), []))

    def test_crossings_that_undo_each_other(self):
        for figure in SQUARES[:3]:
            self.assertEqual(level_at(figure, (2, 3)), ((2, 1), []))
        both = [pts((0, 0), (2, 0), (1, 1)), pts((2, 0), (3, 1), (1, 1))]
        self.assertEqual(level_at(both, (1, 2)), ((2, 1), []))
        twice = [pts((0, 0), (1, 0), (0, 1)), pts((5, 0), (6, 0), (5, 1))]
        self.assertEqual(level_at(twice, (1, 2)), ((1, 1), [((-1, 1), 2), ((0, 1), -2)]))

    def test_the_slopes_ascend_as_numbers(self):
        figure = [pts((0, 0), (9, 0), (7, 1)), pts((20, 0), (21, 0), (Fraction(61, 3), 1)), pts((30, 0), (31, 0), (41, 1))]
        slopes = [slope for slope, _ in self.judge(figure, HALF)[1]]
        self.assertEqual(slopes, [(-2, 1), (-2, 3), (1, 3), (7, 1), (10, 1), (11, 1)])

    def test_many(self):
        source = seeded(94)
        for many in (1, 4):
            for _ in range(6):
                figure = random_figure(source, many)
                row = heights(figure)
                for low, high in zip(row, row[1:]):
                    self.judge(figure, low + (high - low) * Fraction(source.randrange(1, 9), 9))
                for y in row:
                    with self.assertRaises(OnEdge):
                        level_at(figure, (y.numerator, y.denominator))


class LevelSums(unittest.TestCase):
    def judge(self, figure):
        strips = level_sums(figure)
        self.assertIs(type(strips), list)
        ends = []
        for strip in strips:
            self.assertIs(type(strip), tuple)
            low, high, width, growth, crossings = strip
            self.assertTrue(all(is_number(a) for a in (low, high, width, growth)))
            low, high, width, growth = map(fraction, strip[:4])
            self.assertLess(low, high)
            self.assertTrue(not ends or ends[-1][1] <= low)
            ends.append((low, high))
            slopes = [fraction(slope) for slope, _ in crossings]
            self.assertEqual(slopes, sorted(set(slopes)))
            self.assertTrue(all(is_number(slope) and type(n) is int and n != 0 for slope, n in crossings))
        # Two heights between neighbouring ones tell all that grows evenly between them.
        row = heights(figure)
        for low, high in zip(row, row[1:]):
            for part in (Fraction(1, 3), Fraction(3, 4)):
                y = low + (high - low) * part
                self.assertEqual(self.told(strips, y), told_at(figure, y))
        for y in (row[0] - 1, row[-1] + 1) if row else (0, 5):
            self.assertEqual(self.told(strips, y), (0, []))
        self.assertTrue(not row or all(row[0] <= low and high <= row[-1] for low, high in ends))
        for before, after in zip(strips, strips[1:]):
            self.assertFalse(before[1] == after[0] and before[4] == after[4]
                             and self.width(before, fraction(after[0])) == fraction(after[2]))
        return strips

    def width(self, strip, y):
        return fraction(strip[2]) + fraction(strip[3]) * (y - fraction(strip[0]))

    def told(self, strips, y):
        for strip in strips:
            if fraction(strip[0]) < y < fraction(strip[1]):
                self.assertGreater(self.width(strip, y), 0)
                return self.width(strip, y), [(fraction(slope), count) for slope, count in strip[4]]
        return 0, []

    def test_by_hand(self):
        self.assertEqual(level_sums([]), [])
        self.assertEqual(level_sums(SQUARE), [((0, 1), (2, 1), (2, 1), (0, 1), [])])
        self.assertEqual(level_sums([TRIANGLE]),
                         [((0, 1), (2, 1), (4, 1), (-2, 1), [((-3, 2), 1), ((1, 2), -1)])])
        self.assertEqual(level_sums([pts((0, 1), (1, 0), (2, 1), (1, 3))]), [
            ((0, 1), (1, 1), (0, 1), (2, 1), [((-1, 1), -1), ((1, 1), 1)]),
            ((1, 1), (3, 1), (2, 1), (-1, 1), [((-1, 2), 1), ((1, 2), -1)])])

    def test_a_gap_between_strips(self):
        strips = self.judge([rect(0, 0, 1, 1), rect(5, 2, 6, 3)])
        self.assertEqual(strips, [((0, 1), (1, 1), (1, 1), (0, 1), []), ((2, 1), (3, 1), (1, 1), (0, 1), [])])

    def test_neighbouring_strips_are_one(self):
        for figure in SQUARES:
            self.assertEqual(self.judge(figure), level_sums(SQUARE))
        # Beside each other and above each other, they are as one.
        self.assertEqual(self.judge([rect(0, 0, 2, 1), rect(50, 1, 52, 2)]), level_sums(SQUARE))
        # The lower half of a triangle and, elsewhere, its upper half.
        low, high = pts((0, 0), (4, 0), (Fraction(5, 2), 1), (HALF, 1)), pts((9, 1), (11, 1), (10, 2))
        self.assertEqual(len(self.judge([low, high])), 2)
        high = pts((9, 1), (11, 1), (Fraction(19, 2), 2))
        self.assertEqual(self.judge([low, high]), level_sums([TRIANGLE]))

    def test_neighbouring_strips_of_other_widths_are_two(self):
        self.assertEqual(self.judge([rect(0, 0, 2, 1), rect(0, 1, 3, 2)]),
                         [((0, 1), (1, 1), (2, 1), (0, 1), []), ((1, 1), (2, 1), (3, 1), (0, 1), [])])
        # The crossings are the same and the widths go on, but a corner comes between.
        self.assertEqual(len(self.judge([pts((0, 0), (2, 0), (3, 1), (1, 1)), pts((1, 1), (3, 1), (2, 2), (0, 2))])), 1)

    def test_the_slopes_ascend_as_numbers(self):
        figure = [pts((0, 0), (9, 0), (7, 1)), pts((20, 0), (21, 0), (Fraction(61, 3), 1)), pts((30, 0), (31, 0), (41, 1))]
        strips = self.judge(figure)
        self.assertEqual([slope for slope, _ in strips[0][4]],
                         [(-2, 1), (-2, 3), (1, 3), (7, 1), (10, 1), (11, 1)])

    def test_many(self):
        source = seeded(95)
        for many in (1, 2, 5):
            for _ in range(6):
                figure = random_figure(source, many)
                strips = self.judge(figure)
                finer = [part for polygon in figure for part in split(source, polygon, 1)]
                self.assertEqual(self.judge(finer), strips)

    def test_they_stay_when_pieces_are_slid_level(self):
        source = seeded(96)
        for _ in range(5):
            figure = random_figure(source, 3)
            paper = random_paper(source, figure, "level")
            self.assertEqual(level_sums(laid(paper)), level_sums(figure))
            self.assertNotEqual(level_sums(laid(paper)[1:]), level_sums(figure))

    def test_the_area_is_that_of_the_strips(self):
        source = seeded(97)
        figure = random_figure(source, 6)
        total = Fraction(0)
        for strip in level_sums(figure):
            low, high = map(fraction, strip[:2])
            total += (high - low) * self.width(strip, (low + high) / 2)
        self.assertEqual(total, area_of(figure))


class Covers(unittest.TestCase):
    def expected(self, figure, place, group):
        """Try each motion of the group that may lead into the figure; None if one leads onto an edge."""
        made = set()
        for k in TURNS[group]:
            x, y = carried((k, at(0, 0)), place)
            for polygon in figure:
                us, vs = zip(*[xy(p) for p in polygon])
                for dx in range(math.floor(min(us) - x), math.ceil(max(us) - x) + 1):
                    for dy in range(math.floor(min(vs) - y), math.ceil(max(vs) - y) + 1):
                        there = place_of(polygon, x + dx, y + dy)
                        if there == 0:
                            return None
                        if there == 1:
                            made.add((x + dx, y + dy))
        return len(made)

    def judge(self, figure, place, group):
        expected = self.expected(figure, place, group)
        if expected is None:
            with self.assertRaises(OnEdge):
                covers(figure, at(*place), group)
        else:
            answer = covers(figure, at(*place), group)
            self.assertIs(type(answer), int)
            self.assertEqual(answer, expected)
        return expected

    def test_by_hand(self):
        for group in ("grid", "grid2", "grid4"):
            self.assertEqual(covers([], (1, 2, 3), group), 0)
        for p in pts((HALF, Fraction(1, 3)), (HALF - 7, Fraction(1, 3) + 9)):
            self.assertEqual(covers(SQUARE, p, "grid"), 4)
            self.assertEqual(covers(SQUARE, p, "grid2"), 8)
            self.assertEqual(covers(SQUARE, p, "grid4"), 16)
        small = [pts((0, 0), (HALF, 0), (0, HALF))]
        self.assertEqual(covers(small, at(Fraction(1, 10), Fraction(1, 10)), "grid"), 1)
        self.assertEqual(covers(small, at(Fraction(2, 5), Fraction(2, 5)), "grid"), 0)
        self.assertEqual(covers(small, at(Fraction(-1, 10), Fraction(-1, 10)), "grid"), 0)
        self.assertEqual(covers(small, at(Fraction(-1, 10), Fraction(-1, 10)), "grid2"), 1)
        self.assertEqual(covers(small, at(Fraction(-1, 10), Fraction(1, 10)), "grid2"), 0)
        self.assertEqual(covers(small, at(Fraction(-1, 10), Fraction(1, 10)), "grid4"), 1)

    def test_points_that_are_led_to_themselves_count_once(self):
        square = [rect(-1, -1, 1, 1), rect(Fraction(5, 4), Fraction(1, 4), Fraction(7, 4), Fraction(3, 4))]
        # Half a turn about the middle of a field leads it to itself, and so does a quarter turn.
        self.assertEqual([covers(square, at(HALF, HALF), group) for group in ("grid", "grid2", "grid4")], [5, 5, 5])
        # A half turn leads the middle of a side to itself, a quarter turn to the middle of another side.
        upright = [rect(Fraction(1, 4), Fraction(-1, 4), Fraction(9, 4), Fraction(1, 4))]
        self.assertEqual([covers(upright, at(HALF, 0), group) for group in ("grid", "grid2", "grid4")], [2, 2, 2])
        self.assertEqual([covers(upright, at(0, HALF), group) for group in ("grid", "grid2", "grid4")], [0, 0, 2])
        self.assertEqual([covers(upright, at(0, 0), group) for group in ("grid", "grid2", "grid4")], [2, 2, 2])

    def test_motions_that_lead_onto_an_edge(self):
        figure = [rect(0, 0, Fraction(3, 2), HALF), pts((9, HALF), (10, Fraction(1, 4)), (10, Fraction(3, 4)))]
        for place in ((0, 0), (Fraction(1, 3), 0), (Fraction(1, 3), HALF), (HALF, Fraction(1, 5)), (-4, Fraction(1, 5)),
                      (HALF, HALF), (0, HALF), (0, Fraction(1, 4)), (0, Fraction(3, 4)), (HALF, Fraction(3, 8)),
                      (100, 100), (Fraction(1, 3), 5)):
            for group in ("grid", "grid2", "grid4"):
                with self.assertRaises(OnEdge):
                    covers(figure, at(*place), group)

    def test_only_turns_lead_onto_an_edge(self):
        figure = [rect(Fraction(1, 5), Fraction(1, 7), Fraction(2, 5), Fraction(2, 7))]
        place = (Fraction(-1, 5), Fraction(-3, 14))
        self.assertEqual(covers(figure, at(*place), "grid"), 0)
        for group in ("grid2", "grid4"):
            with self.assertRaises(OnEdge):
                covers(figure, at(*place), group)
        place = (Fraction(3, 14), Fraction(-1, 5))
        self.assertEqual([covers(figure, at(*place), group) for group in ("grid", "grid2")], [0, 0])
        with self.assertRaises(OnEdge):
            covers(figure, at(*place), "grid4")

    def test_an_inner_edge_is_an_edge(self):
        for figure in SQUARES[1:]:
            with self.assertRaises(OnEdge):
                covers(figure, at(1, 1), "grid")
        self.assertEqual(covers([rect(HALF, HALF, Fraction(5, 2), Fraction(5, 2))], at(1, 1), "grid"), 4)

    def test_many(self):
        source = seeded(98)
        told = 0
        for _ in range(12):
            figure = random_figure(source, 3)
            for group in ("grid", "grid2", "grid4"):
                for _ in range(4):
                    w = source.choice((1, 2, 3, 4, 6, 12, 101))
                    place = Fraction(source.randrange(-9 * w, 9 * w), w), Fraction(source.randrange(-9 * w, 9 * w), w)
                    told += self.judge(figure, place, group) is not None
                corner = source.choice(figure[0])
                self.assertIsNone(self.judge(figure, xy(corner), group))
        self.assertGreater(told, 40)

    def test_they_stay_when_pieces_are_moved_by_the_group(self):
        source = seeded(99)
        for group in ("grid", "grid2", "grid4"):
            for _ in range(3):
                figure = random_figure(source, 2)
                other = laid(random_paper(source, figure, group))
                for _ in range(6):
                    p = at(Fraction(source.randrange(997), 997), Fraction(source.randrange(1009), 1009))
                    self.assertEqual(covers(figure, p, group), covers(other, p, group))


class Alike(unittest.TestCase):
    def test_arguments_stay_and_answers_are_new(self):
        figure = [TRIANGLE, rect(9, 0, 10, 1)]
        before = copy.deepcopy(figure)
        for function in (edge_sums, level_sums):
            answer, again = function(figure), function(figure)
            self.assertEqual(answer, again)
            answer.append("more")
            self.assertEqual(function(figure), again)
        strips, again = level_sums(figure), level_sums(figure)
        strips[0][4].append("more")
        self.assertEqual(level_sums(figure), again)
        told, again = level_at(figure, (1, 2)), level_at(figure, (1, 2))
        told[1].append("more")
        self.assertEqual(level_at(figure, (1, 2)), again)
        p = at(Fraction(1, 101), Fraction(3, 103))
        self.assertEqual(covers(figure, p, "grid4"), covers(figure, p, "grid4"))
        self.assertEqual(figure, before)
