"""Point 28 for sums, slabs and layers: as many polygons as may be passed, in exact numbers."""

import unittest
from fractions import Fraction

from cutandlaid.layers import match
from cutandlaid.slabs import slabs
from cutandlaid.sums import covers, edge_sums, level_at, level_sums
from cutandlaid.witnesses import is_witness
from tests.helpers import (area_of, at, common_areas, hull, inside, place_of, pts, rect, seeded, twelve_corners,
                           xy)
from tests.test_limits import FINE, FINEST, board
from tests.test_sums import edges, fraction, told_at

RING = [(26, 0), (24, 10), (19, 18), (10, 24), (0, 26), (-10, 24),
        (-19, 18), (-24, 10), (-26, 0), (-24, -10), (0, -26), (10, -24)]


def rugged(source, x, y, size):
    """A polygon with twelve corners around a place, each with a denominator of its own."""
    corners = []
    for dx, dy in RING:
        w = source.randrange(10 ** 12 - 10 ** 6, 10 ** 12)
        corners.append((Fraction((x + dx * size) * w + source.randrange(w // 9), w),
                        Fraction((y + dy * size) * w + source.randrange(w // 9), w)))
    return pts(*hull(corners))


def random_height(source):
    y = Fraction(source.randrange(-20 * FINE, 60 * FINE), FINE)
    return y, (y.numerator, y.denominator)


class Sums(unittest.TestCase):
    @classmethod
    def setUpClass(cls):
        source = seeded(141)
        # One beside the other, all at about the same heights.
        cls.figure = [rugged(source, 60 * k, source.randrange(10), 1) for k in range(200)]

    def test_edge_sums(self):
        sums = dict(edge_sums(self.figure))
        self.assertGreater(len(sums), 2000)
        whole = [Fraction(0), Fraction(0)]
        for (p, q), t in sums.items():
            whole = [whole[0] + p * fraction(t), whole[1] + q * fraction(t)]
        self.assertEqual(whole, [0, 0])
        for (x, y), (u, v) in list(edges(self.figure))[::50]:
            direction = next(d for d in sums if d[0] * (v - y) == d[1] * (u - x))
            self.assertEqual(fraction(sums[direction]), (v - y) / direction[1])
            self.assertIs(is_witness(("edges", direction), self.figure, self.figure, "free"), False)
            self.assertIs(is_witness(("edges", direction), self.figure, [], "free"), True)

    def test_level_sums(self):
        strips = level_sums(self.figure)
        self.assertGreater(len(strips), 1000)
        source = seeded(142)
        for _ in range(12):
            y, height = random_height(source)
            width, crossings = told_at(self.figure, y)
            told = level_at(self.figure, height)
            self.assertEqual((fraction(told[0]), [(fraction(slope), n) for slope, n in told[1]]), (width, crossings))
            within = [strip for strip in strips if fraction(strip[0]) < y < fraction(strip[1])]
            if not width:
                self.assertEqual(within, [])
            else:
                low, high, base, growth, found = within[0]
                self.assertEqual(fraction(base) + fraction(growth) * (y - fraction(low)), width)
                self.assertEqual(found, told[1])

    def test_slabs(self):
        figure = self.figure[:40]
        parts = slabs(figure, [(n, FINEST) for n in range(-FINEST, FINEST, FINEST // 7)])
        self.assertGreater(len(parts), 10000)
        places = [(min(xy(p)[1] for p in polygon), xy(polygon[0])[0]) for polygon in parts]
        self.assertEqual(places, sorted(places))
        for polygon in figure[:2]:
            around = [xy(p)[0] for p in polygon]
            own = [part for part in parts if min(around) <= xy(part[0])[0] <= max(around)]
            self.assertEqual(area_of(own), area_of([polygon]))


class Covers(unittest.TestCase):
    def test_polygons_as_wide_as_may_be(self):
        # Each one covers a hundred rows of a hundred points, but for the rows that it just misses.
        part = Fraction(1, FINEST)
        figure = [rect(200 * k + part, 200 * k + part, 200 * k + 100 - part, 200 * k + 100) for k in range(200)]
        self.assertEqual(covers(figure, at(Fraction(1, 2), Fraction(1, 3)), "grid"), 200 * 100 * 100)
        self.assertEqual(covers(figure, at(part / 2, Fraction(1, 3)), "grid"), 200 * 99 * 100)
        self.assertEqual(covers(figure, at(Fraction(1, 2), Fraction(1, 3)), "grid2"), 2 * 200 * 100 * 100)
        self.assertEqual(covers(figure, at(part / 2, Fraction(1, 3)), "grid4"), 200 * (3 * 99 * 100 + 100 * 100))

    def test_one_by_one(self):
        source = seeded(143)
        polygon = rugged(source, 3, 5, 1)
        p = at(Fraction(1, 3), Fraction(1, FINE))
        x, y = xy(p)
        by_hand = [place_of(polygon, x + dx, y + dy) for dx in range(-60, 60) for dy in range(-60, 60)]
        self.assertEqual(covers([polygon], p, "grid"), by_hand.count(1))


class Layers(unittest.TestCase):
    def judge_areas(self, first, second, answer):
        matched, first_rest, second_rest = answer
        self.assertEqual(area_of([p for p, _, _ in matched] + [p for p, _ in first_rest]),
                         area_of([p for p, _ in first]))
        self.assertEqual(area_of([p for p, _, _ in matched] + [p for p, _ in second_rest]),
                         area_of([p for p, _ in second]))

    def test_boards(self):
        source = seeded(144)
        first = [(polygon, (0, (k, 0, 1))) for k, polygon in enumerate(board(source, 14, FINE, 0))]
        second = [(polygon, (2, (k, 1, 2))) for k, polygon in enumerate(board(source, 14, FINE, 31))]
        answer = match(first, second)
        self.judge_areas(first, second, answer)
        self.assertEqual(area_of([p for p, _, _ in answer[0]]),
                         common_areas([p for p, _ in first], [p for p, _ in second]))
        originals = {motion: polygon for polygon, motion in first + second}
        for polygon, here, there in answer[0][::20]:
            self.assertEqual(place_of(originals[here], *inside(polygon)), 1)
            self.assertEqual(place_of(originals[there], *inside(polygon)), 1)

    def test_stacks(self):
        source = seeded(145)
        stacks = []
        for _ in range(2):
            stacks.append([(twelve_corners(source.randrange(5 * FINE), source.randrange(5 * FINE), FINE,
                                           size=FINE // 2 - source.randrange(FINE // 4)), (0, (k, 0, 1)))
                           for k in range(40)])
        answer = match(*stacks)
        self.judge_areas(*stacks, answer)
        for k in range(0, 40, 13):
            for at_place, layers, rest in ((1, stacks[0], answer[1]), (2, stacks[1], answer[2])):
                motion = (0, (k, 0, 1))
                parts = [row[0] for row in answer[0] if row[at_place] == motion]
                parts += [polygon for polygon, other in rest if other == motion]
                self.assertEqual(area_of(parts), area_of([layers[k][0]]))
                self.assertEqual(common_areas(parts, [layers[k][0]]), area_of(parts))
        for _ in range(25):
            place = Fraction(source.randrange(-20009, 25013), 1009), Fraction(source.randrange(-20009, 25013), 1013)
            counts = [sum(place_of(row[0], *place) for row in rows if place_of(row[0], *place) == 1)
                      for rows in (*stacks, *answer)]
            self.assertEqual(counts[0], counts[2] + counts[3])
            self.assertEqual(counts[1], counts[2] + counts[4])
            self.assertEqual(counts[3] * counts[4], 0)

    def test_strips_across_strips(self):
        first = [(rect(3 * k, 0, 3 * k + 2, 600), (0, (k, 0, 1))) for k in range(200)]
        second = [(rect(0, 3 * k, 600, 3 * k + 2), (0, (0, k, 1))) for k in range(200)]
        answer = match(first, second)
        self.judge_areas(first, second, answer)
        self.assertEqual(len(answer[0]), 40000)
        self.assertEqual({area_of([row[0]]) for row in answer[0]}, {4})

    def test_alike(self):
        square = rect(0, 0, 1, 1)
        first = [(square, (0, (k, 0, 1))) for k in range(200)]
        second = [(square, (1, (k, 0, 1))) for k in range(150)]
        matched, first_rest, second_rest = match(first, second)
        self.assertEqual((len(matched), len(first_rest), second_rest), (150, 50, []))
        self.assertEqual(len({motion for _, motion, _ in matched} | {motion for _, motion in first_rest}), 200)
