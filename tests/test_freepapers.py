import copy
import unittest
from fractions import Fraction
from unittest import mock

from cutandlaid import freepapers
from cutandlaid.freepapers import fill, free_paper, half_paper, turn_over
from cutandlaid.judging import find_fault
from cutandlaid.sums import edge_sums
from tests.helpers import (area_of, at, carried_polygon, hull, is_right, pts, random_figure, random_paper, rect,
                           seeded, well_written)
from tests.test_levelpapers import laid, leant, nothing_whole, num

HALF = Fraction(1, 2)


def around(*vectors, x=0, y=0):
    """The polygon with these edges, in order, from the place (x, y)."""
    places = [(Fraction(x), Fraction(y))]
    for dx, dy in vectors:
        places.append((places[-1][0] + dx, places[-1][1] + dy))
    return pts(*hull(places))


def zonogon(*vectors):
    """The polygon with each of these edges, that lead upwards, and its opposite."""
    rising = sorted(vectors, key=lambda vector: Fraction(-vector[0], vector[1]))
    return around(*rising, *[(-dx, -dy) for dx, dy in rising])


class FreeCase(unittest.TestCase):
    def judge(self, paper, first, second, group, simply=False):
        self.assertIs(type(paper), list)
        self.assertTrue(all(type(pair) is tuple and len(pair) == 2 for pair in paper))
        self.assertIsNone(find_fault(paper, first, second, group))
        if not simply:
            self.assertTrue(is_right(paper, first, second, group))


class TurnOver(FreeCase):
    def judge_turn(self, a, b, c, simply=False):
        a, b, c = map(Fraction, (a, b, c))
        d = a * b / c
        paper = turn_over(num(a), num(b), num(c), num(d))
        self.judge(paper, [rect(0, 0, a, b)], [rect(0, 0, c, d)], "free", simply)
        return paper

    def test_by_hand(self):
        self.assertEqual(self.judge_turn(1, 2, 1), [(rect(0, 0, 1, 2), (0, (0, 0, 1)))])
        self.assertEqual(sorted(self.judge_turn(2, 1, 1)),
                         [(rect(0, 0, 1, 1), (0, (0, 0, 1))), (rect(1, 0, 2, 1), (0, (-1, 1, 1)))])
        self.assertEqual(len(self.judge_turn(3, 2, 2)), 3)

    def test_less_equal_and_greater(self):
        sides = (Fraction(1, 3), HALF, 1, Fraction(7, 5), 2, 3, Fraction(22, 7), 9)
        for a in sides:
            for c in sides:
                self.judge_turn(a, Fraction(3, 4), c)

    def test_up_to_the_limits(self):
        for a, c in ((1000, 1), (1, 1000), (999, 1), (1, Fraction(9999, 10)), (Fraction(1, 10), 100),
                     (Fraction(10 ** 12 - 11, 10 ** 12), Fraction(10 ** 12 - 39, 10 ** 10))):
            paper = self.judge_turn(a, Fraction(10 ** 12 - 61, 10 ** 11), c, simply=True)
            self.assertLess(len(paper), 5000)


class Fill(FreeCase):
    def judge_fill(self, l, r, h, simply=False):
        l, r, h = map(Fraction, (l, r, h))
        triangle = pts(*hull([(Fraction(0), Fraction(0)), (r * h, h), (l * h, h)]))
        wide = (r - l) * h
        self.judge(fill(num(l), num(r), num(h)), [triangle], [rect(0, 0, wide, h / 2)], "free2", simply)

    def test_on_both_sides(self):
        for l, r in ((-1, 1), (-3, HALF), (Fraction(-1, 100), 2), (-100, 100)):
            for h in (1, Fraction(3, 7), 20):
                self.judge_fill(l, r, h)

    def test_on_one_side(self):
        for l, r in ((1, 2), (-2, -1), (HALF, 9), (Fraction(-7, 2), Fraction(-10, 3)), (3, 4), (-40, -39)):
            for h in (1, Fraction(3, 7), 20):
                self.judge_fill(l, r, h)

    def test_upright(self):
        for l, r in ((0, 1), (-1, 0), (0, Fraction(1, 100)), (Fraction(-1, 100), 0), (0, 100), (-100, 0)):
            self.judge_fill(l, r, Fraction(5, 3))

    def test_at_the_limits(self):
        for l, r in ((-100, Fraction(-9999, 100)), (Fraction(9999, 100), 100), (Fraction(4999, 100), 50)):
            self.judge_fill(l, r, Fraction(10 ** 12 - 11, 10 ** 12), simply=True)


class FreePapers(FreeCase):
    def judge_both(self, first, second, simply=False):
        self.assertEqual(edge_sums(first), edge_sums(second))
        self.judge(free_paper(first, second), first, second, "free", simply)
        with mock.patch.object(freepapers, "matched_whole", nothing_whole):
            self.judge(free_paper(first, second), first, second, "free", simply=True)
            self.judge(free_paper(second, first), second, first, "free", simply=True)

    def test_empty(self):
        self.assertEqual(free_paper([], []), [])
        self.assertIsNone(free_paper([rect(0, 0, 1, 1)], []))
        self.assertIsNone(free_paper([], [rect(0, 0, 1, 1)]))

    def test_rectangles(self):
        for a, b, c in ((2, 3, 3), (1, 1, 7), (5, HALF, Fraction(2, 3)), (1, 50, 10)):
            self.judge_both([rect(1, 1, 1 + a, 1 + b)], [rect(-c, -5, 0, -5 + Fraction(a * b) / c)])
        self.judge_both([rect(0, 0, 5, 5), rect(7, 0, 8, 4)], [rect(0, 0, Fraction(29, 3), 3)], simply=True)

    def test_polygons_with_opposite_edges(self):
        # Their edge sums are all nought, so the areas alone matter.
        shapes = [rect(0, 0, 3, 4), leant(Fraction(2), Fraction(6), Fraction(-3)), leant(Fraction(6), Fraction(2), HALF),
                  zonogon((1, 1), (-1, 1), (0, 2)), zonogon((2, 1), (-1, 2), (1, 3), (-3, 1))]
        for k, first in enumerate(shapes):
            for second in shapes[:k]:
                wide, tall = area_of([first]), area_of([second])
                more = [rect(50, 0, 51, max(tall - wide, 0))] if tall > wide else []
                other = [rect(50, 0, 51, wide - tall)] if wide > tall else []
                self.judge_both([first] + more, [second] + other, simply=True)

    def test_wedges_of_other_heights(self):
        # A triangle, and two lower ones of the same form beside what fills them up.
        whole = [pts((-1, 3), (0, 0), (2, 3))]
        self.judge_both(whole, [pts((8, 1), (9, -2), (11, 1))])
        one = pts((Fraction(-1, 3), 1), (0, 0), (Fraction(2, 3), 1))
        two = carried_polygon((0, at(20, 0)), pts((Fraction(-2, 3), 2), (0, 0), (Fraction(4, 3), 2)))
        self.judge_both(whole, [one, two, leant(Fraction(1), Fraction(2), Fraction(1), 40)])
        self.judge_both([carried_polygon((2, at(0, 0)), polygon) for polygon in whole],
                        [carried_polygon((2, at(0, 0)), polygon) for polygon in (one, two)] + [rect(9, 9, 11, 10)])

    def test_triangles_against_each_other(self):
        up, down = pts((0, 0), (4, 0), (1, 3)), pts((0, 0), (3, -3), (4, 0))
        self.judge_both([up, carried_polygon((0, at(9, 1)), down)],
                        [leant(Fraction(4), Fraction(3), Fraction(1, 3), 20, 20)])
        self.judge_both([up, carried_polygon((0, at(9, 1)), down)], [rect(0, 0, 1, 12)])

    def test_cut_and_slid(self):
        source = seeded(181)
        for many, cuts in ((1, 0), (1, 1), (1, 2), (2, 1), (3, 0), (2, 2)):
            figure = random_figure(source, many)
            self.judge_both(figure, laid(random_paper(source, figure, "free", cuts)), simply=True)

    def test_cut_in_two_ways(self):
        source = seeded(182)
        for _ in range(2):
            figure = random_figure(source, 2)
            first, second = (laid(random_paper(source, figure, "free", 1)) for _ in range(2))
            self.judge_both(first, second, simply=True)

    def test_narrow_ones_beside_a_wide_one(self):
        # By themselves the narrow ones would have to be cut into millions of pieces.
        part = Fraction(1, 10 ** 4) ** 2
        slim, other = leant(part, Fraction(10), HALF, 30), leant(part, Fraction(10), Fraction(-1, 3), 30)
        for whole in (rect(0, 0, 1, 1), pts((-5, 10), (0, 0), (5, 10))):
            paper = free_paper([whole, slim], [whole, other])
            self.judge(paper, [whole, slim], [whole, other], "free", simply=True)
            self.assertLess(len(paper), 1000)
            paper = half_paper([whole, slim], [whole, other])
            self.judge(paper, [whole, slim], [whole, other], "free2", simply=True)
            self.assertLess(len(paper), 1000)

    def test_not_equal(self):
        triangle = [pts((0, 0), (2, 0), (0, 2))]
        for first, second in ((triangle, [rect(0, 0, 1, 2)]), (triangle, [pts((0, 0), (2, -2), (2, 0))]),
                              (triangle, [pts((0, 0), (4, 0), (0, 1))]), (triangle, [pts((0, 0), (2, 0), (0, 1))]),
                              ([rect(0, 0, 1, 1)], [rect(0, 0, 1, 2)])):
            self.assertIsNone(free_paper(first, second))
            self.assertIsNone(free_paper(second, first))
        source = seeded(183)
        for _ in range(10):
            figure = random_figure(source, 2)
            second = laid(random_paper(source, figure, "free2", 1))
            if edge_sums(figure) != edge_sums(second):
                self.assertIsNone(free_paper(figure, second))


class HalfPapers(FreeCase):
    def judge_both(self, first, second, simply=False):
        self.judge(half_paper(first, second), first, second, "free2", simply)
        with mock.patch.object(freepapers, "matched_whole", nothing_whole):
            self.judge(half_paper(first, second), first, second, "free2", simply=True)
            self.judge(half_paper(second, first), second, first, "free2", simply=True)

    def test_empty(self):
        self.assertEqual(half_paper([], []), [])
        self.assertIsNone(half_paper([rect(0, 0, 1, 1)], []))
        self.assertIsNone(half_paper([], [rect(0, 0, 1, 1)]))

    def test_same_area(self):
        shapes = [rect(0, 0, 3, 4), pts((0, 0), (6, 0), (5, 4)), pts((-8, 3), (0, 0), (0, 3)),
                  leant(Fraction(12), Fraction(1), Fraction(-3)), pts((0, 0), (5, -1), (6, 1), (2, 3))]
        for k, first in enumerate(shapes):
            for second in shapes[:k]:
                wide, tall = area_of([first]), area_of([second])
                more = [rect(50, 0, 51, tall - wide)] if tall > wide else []
                other = [rect(50, 0, 51, wide - tall)] if wide > tall else []
                self.judge_both([first] + more, [second] + other)

    def test_half_turned(self):
        source = seeded(184)
        for many, cuts in ((1, 0), (2, 1), (3, 2)):
            figure = random_figure(source, many)
            self.judge_both(figure, laid(random_paper(source, figure, "free2", cuts)), simply=True)

    def test_other_area(self):
        part = Fraction(1, 10 ** 12)
        self.assertIsNone(half_paper([rect(0, 0, 1, 1)], [rect(0, 0, 1, 1 + part)]))
        self.assertIsNone(half_paper([rect(0, 0, 1, 1)], [rect(0, 0, 1, 1), rect(5, 5, 6, 6)]))


class Form(FreeCase):
    def test_arguments_stay_and_answers_are_new(self):
        source = seeded(185)
        figure = random_figure(source, 2)
        second = laid(random_paper(source, figure, "free", 1))
        before = copy.deepcopy((figure, second))
        for function, arguments in ((free_paper, (figure, second)), (half_paper, (figure, second)),
                                    (free_paper, ([], [])), (half_paper, ([], [])),
                                    (turn_over, ((1, 1), (1, 1), (1, 1), (1, 1))),
                                    (turn_over, ((5, 3), (1, 1), (1, 1), (5, 3))), (fill, ((1, 1), (2, 1), (3, 1)))):
            answer = function(*arguments)
            again = function(*arguments)
            self.assertEqual(answer, again)
            self.assertTrue(all(well_written(polygon) for polygon, _ in answer))
            answer.append("more")
            self.assertEqual((figure, second), before)
            self.assertEqual(function(*arguments), again)
