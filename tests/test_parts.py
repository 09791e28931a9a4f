"""The parts that figures are taken apart into: each of them holds the points that its shape tells."""

import unittest
from fractions import Fraction

from cutandlaid.assembling import matched_whole
from cutandlaid.bars import can_hold, gathered, held, leaned
from cutandlaid.judging import find_fault
from cutandlaid.motions import STAY
from cutandlaid.piles import bars_paper, best_width, effort, flattened, heaped, narrowed, of_width, pile_of
from cutandlaid.slabs import slabs
from cutandlaid.trapezoids import (joined, paper_between, parted, parted_level, rectangle_of, trapezoid_of,
                                   turned_half)
from cutandlaid.wedgepairs import paired_wedges
from cutandlaid.wedges import Pairing, bars_of_both, lowered, taken_apart, turned_back
from tests.helpers import (TURNS, area_of, at, carried_polygon, common_areas, hull, is_right_figure, pts,
                           random_figure, random_paper, rect, seeded, split)
from tests.test_levelpapers import laid, leant, num

HALF = Fraction(1, 2)


def fraction(a):
    return Fraction(a[0], a[1])


def shape_of(item):
    """The polygon that a trapezoid is to hold."""
    left, right, low, height = map(fraction, item.shape())
    return pts(*hull([(Fraction(0), Fraction(0)), (low, Fraction(0)), (low + right * height, height),
                      (left * height, height)]))


def trapezoid(left, right, low, height, x=0, y=0):
    """A trapezoid that was made of one polygon, which stands at (x, y)."""
    left, right, low, height, x, y = map(Fraction, (left, right, low, height, x, y))
    return trapezoid_of(pts(*hull([(x, y), (x + low, y), (x + low + right * height, y + height),
                                   (x + left * height, y + height)])))


class PartsCase(unittest.TestCase):
    def judge(self, items, origin):
        """The layers of each part cover its shape, and all of them together what they were made of."""
        back = []
        for item in items:
            polygons = [polygon for polygon, _ in item.layers]
            self.assertTrue(is_right_figure(polygons))
            self.assertEqual(area_of(polygons), area_of([shape_of(item)]))
            self.assertEqual(common_areas(polygons, [shape_of(item)]), area_of(polygons))
            back.extend(carried_polygon(motion, polygon) for polygon, motion in item.layers)
        self.assertTrue(is_right_figure(back))
        self.assertEqual(area_of(back), area_of(origin))
        self.assertEqual(common_areas(back, origin), area_of(origin))


class Trapezoids(PartsCase):
    def test_made_of_a_polygon(self):
        for polygon, shape in ((rect(3, 4, 5, 7), (0, 0, 2, 3)), (pts((0, 0), (4, 0), (1, 2)), (HALF, Fraction(-3, 2), 4, 2)),
                               (pts((-1, 5), (1, 1), (2, 5)), (-HALF, Fraction(1, 4), 0, 4)),
                               (pts((0, 2), (1, 0), (4, 0), (3, 2)), (-HALF, -HALF, 3, 2))):
            item = trapezoid_of(polygon)
            self.assertEqual(tuple(map(fraction, item.shape())), shape)
            self.assertEqual(shape_of(item), item.layers[0][0])
            self.judge([item], [polygon])

    def test_cut_and_joined(self):
        origin = [pts((1, 3), (2, 1), (7, 1), (9, 3))]
        item = trapezoid_of(origin[0])
        for slope, place in ((0, 2), (HALF, 0), (2, 1), (-2, 4), (1, 5)):
            left, right = parted(item, num(slope), num(place))
            self.judge([left, right], origin)
            again = joined([left, right])
            self.assertEqual(again.shape(), item.shape())
            self.judge([again], origin)
        lower, upper = parted_level(item, num(Fraction(1, 3)))
        self.judge([lower, upper], origin)
        for half in (lower, upper):
            over = turned_half(half)
            self.assertEqual((over.left, over.right, over.low), (half.right, half.left, half.high()))
        self.judge([turned_half(lower), turned_half(turned_half(upper))], origin)
        self.assertEqual(turned_half(turned_half(upper)).shape(), upper.shape())

    def test_paper_between(self):
        first, second = trapezoid(0, 0, 4, 2, 10, 10), trapezoid(0, 0, 4, 2, -5, HALF)
        one, other = joined(parted(first, num(1), num(1))), joined(parted_level(second, num(1))[:1])
        paper = paper_between(one.layers, second.layers)
        self.assertIsNone(find_fault(paper, [rect(10, 10, 14, 12)], [rect(-5, HALF, -1, HALF + 2)], "free"))
        self.assertEqual(other.height, (1, 1))


class Wedges(PartsCase):
    def test_taken_apart(self):
        for left, right, low in ((-1, 2, 3), (1, 2, 3), (-2, -1, HALF), (2, -1, 9), (1, HALF, 2), (0, 1, 0), (1, 1, 1)):
            item = trapezoid(left, right, low, 2)
            for slope in (-3, 0, 1, Fraction(7, 3)):
                wedges, turned, bars = taken_apart([item], num(slope))
                self.assertTrue(all(wedge.low == (0, 1) for wedge in wedges + turned))
                self.assertTrue(all(bar.left == bar.right for bar in bars))
                self.judge(wedges + turned + bars, [shape_of(item)])

    def test_lowered(self):
        for left, right in ((-1, 2), (1, 3), (-3, -1)):
            wedge = trapezoid(left, right, 0, 5, 1, 1)
            lower, rest, bar = lowered(wedge, num(Fraction(7, 4)))
            self.judge([lower, rest, bar], [carried_polygon((0, at(1, 1)), shape_of(wedge))])
            self.assertEqual((lower.low, rest.low), ((0, 1), (0, 1)))
            self.assertEqual(fraction(lower.height) + fraction(rest.height), 5)

    def wedges(self, source, many, across):
        """Wedges of random slopes and heights, that stand beside one another."""
        made = []
        for k in range(many):
            left = Fraction(source.randrange(-9, 9), 3)
            made.append(trapezoid(left, left + Fraction(source.randrange(1, 9), 3), 0, source.randrange(1, 5), 99 * k, across))
        return made

    def test_pairing(self):
        source = seeded(271)
        for _ in range(10):
            first, second = self.wedges(source, 4, 0), self.wedges(source, 3, 500)
            pairing = Pairing(first, second)
            for one, other in pairing.pairs:
                self.assertEqual(one.shape(), other.shape())
            for k, made in enumerate((first, second)):
                parts = [pair[k] for pair in pairing.pairs] + pairing.left[k] + pairing.bars[k]
                origin = [carried_polygon(layer[1], layer[0]) for wedge in made for layer in wedge.layers]
                self.judge(parts, origin)
            # Where both lists have wedges left, it is over other slopes.
            for one in pairing.left[0]:
                for other in pairing.left[1]:
                    self.assertFalse(fraction(one.left) < fraction(other.right)
                                     and fraction(other.left) < fraction(one.right))
            bars = bars_of_both([(one, other) for one, other in pairing.pairs])
            self.assertTrue(all(bar.left == bar.right for bar in bars))

    def test_paired_wedges(self):
        source = seeded(272)
        for opened in (False, True):
            figure = random_figure(source, 2)
            second = laid(random_paper(source, figure, "free", 1))
            sides = [[trapezoid_of(slab) for slab in slabs_of(polygons)] for polygons in (figure, second)]
            pairs, bars = paired_wedges(sides[0], sides[1], opened)
            for k, polygons in enumerate((figure, second)):
                self.judge([pair[k] for pair in pairs] + bars[k], polygons)
            self.assertTrue(all(one.shape() == other.shape() for one, other in pairs))
            self.assertTrue(all(bar.left == bar.right for row in bars for bar in row))
            self.judge(turned_back(turned_back(bars[0])) + [pair[0] for pair in pairs], figure)


def slabs_of(figure):
    return [slab for polygon in figure for slab in slabs([polygon], [])]


class Bars(PartsCase):
    def test_leaned(self):
        for slope in (0, 1, -3):
            for other in (0, HALF, -2, 5):
                bar = trapezoid(slope, slope, Fraction(3, 2), 2, 7, 7)
                new = leaned(joined(parted(bar, num(slope), num(1))), num(other))
                self.assertEqual(tuple(map(fraction, new.shape())), (other, other, Fraction(3, 2), 2))
                self.judge([new], [carried_polygon((0, at(7, 7)), shape_of(bar))])

    def test_held(self):
        host = trapezoid(0, 0, 9, 2)
        others = [trapezoid(slope, slope, low, 2, 100 * (k + 1)) for k, (slope, low) in enumerate(
            ((1, 1), (-1, HALF), (2, 3), (0, 1), (-2, Fraction(1, 3)), (2, 1)))]
        origin = [carried_polygon(item.layers[0][1], item.layers[0][0]) for item in [host] + others]
        self.assertTrue(can_hold(host, others))
        whole = held(host, others)
        self.assertEqual(tuple(map(fraction, whole.shape()))[:2], (0, 0))
        self.judge([whole], origin)
        self.assertFalse(can_hold(host, others + [trapezoid(3, 3, 1, 2)]))
        for slope in (0, -1, 3):
            self.judge([gathered([host] + others, num(slope), 99)], origin)
        self.judge([gathered(others, num(0), 99)], origin[1:])
        self.assertIsNone(gathered([trapezoid(50, 50, Fraction(1, 100), 2), trapezoid(0, 0, 1, 2, 9)], num(0), 99))

    def test_of_other_forms(self):
        origin = [leant(Fraction(3), Fraction(5), Fraction(2, 3))]
        bar = trapezoid_of(origin[0])
        self.judge([flattened(bar, 4)], origin)
        self.judge([heaped(bar, 5)], origin)
        self.assertEqual(tuple(map(fraction, flattened(bar, 4).shape()))[2:], (12, Fraction(5, 4)))
        self.assertEqual(tuple(map(fraction, heaped(bar, 5).shape()))[2:], (Fraction(3, 5), 25))
        for width in (Fraction(3, 2), 2, Fraction(29, 10), 3):
            self.judge([narrowed(rectangle_of((3, 1), (4, 1)), num(width))], [rect(0, 0, 3, 4)])
        for width in (Fraction(1, 7), 1, 3, 10, 31):
            for slope in ((0, 1), (2, 3), (-5, 2)):
                other = of_width(bar, num(width), slope)
                self.assertEqual(other.shape()[:3], (slope, slope, num(width)))
                self.judge([other], origin)

    def test_piles(self):
        rows = [(0, 4, 5), (1, 3, 2), (HALF, Fraction(1, 50), 9), (-3, Fraction(1, 90), 7), (2, Fraction(1, 70), 3)]
        bars = [trapezoid(slope, slope, low, height, 100 * k) for k, (slope, low, height) in enumerate(rows)]
        origin = [carried_polygon(bar.layers[0][1], bar.layers[0][0]) for bar in bars]
        for some in (slice(0, 5), slice(2, 5), slice(3, 4)):
            for slope in ((0, 1), (-7, 3)):
                width = best_width(bars[some], slope)
                pile = pile_of(bars[some], width, slope)
                self.assertTrue(all(bar.shape()[:3] == (slope, slope, width) for bar in pile))
                self.judge(pile, origin[some])
        wide = area_of(origin) / 3
        other = [trapezoid(0, 0, wide, 3, 0, 50)]
        paper = bars_paper(bars, other)
        self.assertIsNone(find_fault(paper, origin, [rect(0, 50, wide, 53)], "free"))
        self.assertGreater(effort(bars, other), 0)
        self.assertEqual((effort([], []), bars_paper([], [])), (0, []))


class Assembling(PartsCase):
    def test_pieces_of_one_polygon(self):
        source = seeded(273)
        for group in TURNS:
            for cuts in (1, 4):
                figure = random_figure(source, 2)
                second = laid(random_paper(source, figure, group, cuts))
                paper, here, there = matched_whole(figure, second, group)
                self.judge_matched(paper, here, there, figure, second, group)
                if group in ("level", "grid", "free"):
                    self.assertEqual((here, there), ([], []))

    def judge_matched(self, paper, here, there, first, second, group):
        """The paper leads what is not left of the one figure to what is not left of the other one."""
        rests = [(polygon, STAY) for polygon in here]
        self.assertTrue(all(polygon in first for polygon in here))
        self.assertTrue(all(polygon in second for polygon in there))
        self.assertIsNone(find_fault(paper + rests, first, laid(paper) + here, "free4"))
        self.assertIsNone(find_fault(paper, [p for p in first if p not in here], [p for p in second if p not in there], group))

    def test_what_does_not_fit(self):
        wheel = [rect(0, 0, 2, 1), rect(2, 0, 3, 2), rect(1, 2, 3, 3), rect(0, 1, 1, 3), rect(1, 1, 2, 2)]
        triangle = pts((20, 0), (21, 0), (20, 2))
        for group in TURNS:
            first, second = [rect(0, 0, 3, 3), triangle], wheel + [carried_polygon((0, at(5, 0)), triangle)]
            paper, here, there = matched_whole(first, second, group)
            self.judge_matched(paper, here, there, first, second, group)
            self.assertEqual(len(paper), 1)
        paper, here, there = matched_whole([], wheel, "grid")
        self.assertEqual((paper, here, sorted(there)), ([], [], sorted(wheel)))
        self.assertEqual(matched_whole([], [], "level"), ([], [], []))

    def test_pieces_that_are_cut_in_turn(self):
        source = seeded(274)
        whole = rect(0, 0, 7, 5)
        parts = [whole]
        for _ in range(9):
            parts.extend(split(source, parts.pop(source.randrange(len(parts))), 1))
        second = [carried_polygon((0, at(40 * k, -7 * k)), part) for k, part in enumerate(parts)]
        source.shuffle(second)
        paper, here, there = matched_whole([whole], second, "grid")
        self.assertEqual((len(paper), here, there), (10, [], []))
        self.assertIsNone(find_fault(paper, [whole], second, "grid"))
