import copy
import unittest
from fractions import Fraction
from unittest import mock

from cutandlaid import levelpapers
from cutandlaid.judging import find_fault
from cutandlaid.levelpapers import lean, level_paper
from cutandlaid.sums import level_sums
from tests.helpers import (at, carried_polygon, hull, is_right, pts, random_figure, random_paper, rect, seeded,
                           well_written)

HALF = Fraction(1, 2)


def num(a):
    a = Fraction(a)
    return (a.numerator, a.denominator)


def leant(w, h, s, x=0, y=0):
    """The parallelogram that leans by s, its lower left corner at (x, y)."""
    return pts(*hull([(x, y), (x + w, y), (x + w + s * h, y + h), (x + s * h, y + h)]))


def trapezoid(x, a, b, w, h):
    return pts(*hull([(x, Fraction(0)), (x + w, Fraction(0)), (x + w + b * h, h), (x + a * h, h)]))


def laid(paper):
    return [carried_polygon(motion, polygon) for polygon, motion in paper]


def nothing_whole(first, second, group):
    """What stands for matched_whole where the other ways are to be tried alone."""
    return ([], first, second)


class LevelCase(unittest.TestCase):
    def judge(self, paper, first, second, simply=False):
        self.assertIs(type(paper), list)
        self.assertTrue(all(type(pair) is tuple and len(pair) == 2 for pair in paper))
        self.assertIsNone(find_fault(paper, first, second, "level"))
        if not simply:
            self.assertTrue(is_right(paper, first, second, "level"))


class Lean(LevelCase):
    def judge_lean(self, w, h, s, simply=False):
        paper = lean(num(w), num(h), num(s))
        self.judge(paper, [rect(0, 0, w, h)], [leant(Fraction(w), Fraction(h), Fraction(s))], simply)
        return paper

    def test_by_hand(self):
        self.assertEqual(lean((1, 1), (1, 1), (0, 1)), [(rect(0, 0, 1, 1), (0, (0, 0, 1)))])
        self.assertEqual(sorted(lean((1, 1), (1, 1), (1, 1))),
                         [(pts((0, 0), (1, 0), (1, 1)), (0, (0, 0, 1))), (pts((0, 0), (1, 1), (0, 1)), (0, (1, 0, 1)))])

    def test_slopes(self):
        for w, h in ((1, 1), (3, HALF), (Fraction(2, 7), Fraction(5, 3))):
            for s in (-9, -3, -1, -HALF, Fraction(-1, 100), 0, Fraction(1, 100), Fraction(2, 3), 1, 2, 7):
                self.judge_lean(w, h, s)

    def test_just_as_far_as_it_is_wide(self):
        for s in (-2, 2, 4, -4, Fraction(199, 100), Fraction(-201, 100)):
            self.judge_lean(2, 1, s)

    def test_much_farther_than_it_is_wide(self):
        self.assertLess(len(self.judge_lean(1, 1, 1000, simply=True)), 1010)
        self.judge_lean(Fraction(1, 7), Fraction(1, 3), Fraction(-3000, 7), simply=True)
        self.judge_lean(Fraction(10 ** 12 - 11, 10 ** 12), 97, Fraction(-1000, 97), simply=True)
        self.judge_lean(Fraction(1, 10 ** 12), 10 ** 5, Fraction(1, 10 ** 15), simply=True)


class LevelPapers(LevelCase):
    def judge_both(self, first, second, simply=False):
        self.judge(level_paper(first, second), first, second, simply)
        self.judge(level_paper(second, first), second, first, simply)
        with mock.patch.object(levelpapers, "matched_whole", nothing_whole):
            self.judge(level_paper(first, second), first, second, simply)

    def test_empty(self):
        self.assertEqual(level_paper([], []), [])
        self.assertIsNone(level_paper([rect(0, 0, 1, 1)], []))
        self.assertIsNone(level_paper([], [rect(0, 0, 1, 1)]))

    def test_cut_and_slid(self):
        source = seeded(171)
        for many, cuts in ((1, 0), (1, 1), (1, 2), (2, 1), (3, 1), (2, 2)):
            figure = random_figure(source, many)
            self.judge_both(figure, laid(random_paper(source, figure, "level", cuts)))

    def test_cut_in_two_ways(self):
        source = seeded(172)
        for many in (1, 3):
            figure = random_figure(source, many)
            first, second = (laid(random_paper(source, figure, "level", 2)) for _ in range(2))
            self.judge_both(first, second, simply=True)

    def test_parallelograms_leaned_differently(self):
        for s in (HALF, -1, 3, -20):
            for t in (0, Fraction(1, 3), 5):
                self.judge_both([leant(2, 3, Fraction(s), 7, 1)], [leant(2, 3, Fraction(t), -4, 1)], simply=True)
        self.judge_both([leant(1, 1, Fraction(900))], [rect(0, 0, 1, 1)], simply=True)

    def test_several_side_by_side(self):
        first = [rect(0, 0, 1, 2), leant(1, 2, Fraction(3), 5), leant(Fraction(1, 2), 2, Fraction(-2), 30)]
        second = [leant(Fraction(5, 2), 2, Fraction(1), -100)]
        self.judge_both(first, second)
        # Two triangles make a square, or a parallelogram.
        triangles = [pts((0, 0), (2, 0), (2, 2)), pts((5, 0), (7, 2), (5, 2))]
        for whole in (rect(9, 0, 11, 2), leant(2, 2, Fraction(1), 20)):
            self.judge_both(triangles, [whole])

    def test_triangles_upon_a_point(self):
        # All stand on corners, so there is no width at all at the lowest height.
        first = [pts((-1, 3), (0, 0), (1, 3)), pts((5, 0), (8, 3), (6, 3))]
        second = [pts((-1, 3), (0, 0), (3, 3))]
        self.judge_both(first, second)
        # The same upside down.
        over = [[carried_polygon((2, at(0, 0)), polygon) for polygon in figure] for figure in (first, second)]
        self.judge_both(*over)

    def test_edges_exchanged(self):
        # Trapezoids whose right edges are given to one another, with widths that may be small.
        source = seeded(173)
        tried = 0
        while tried < 40:
            many, h = source.randrange(2, 7), Fraction(source.randrange(1, 9), 2)
            small = Fraction(1, 10 ** source.randrange(6))
            lefts, rights = ([Fraction(source.randrange(-8, 9), source.choice((1, 2, 7))) for _ in range(many)]
                             for _ in range(2))
            figures, others = [], source.sample(rights, many)
            for order in (rights, others):
                low = [max(Fraction(0), (a - b) * h) + small * source.randrange(1, 9) for a, b in zip(lefts, order)]
                figures.append((order, low))
            difference = sum(figures[0][1]) - sum(figures[1][1])
            figures[0 if difference < 0 else 1][1][0] += abs(difference)
            first, second = ([trapezoid(Fraction(200 * k), a, b, w, h)
                              for k, (a, b, w) in enumerate(zip(lefts, *figure))] for figure in figures)
            self.judge_both(first, second, simply=True)
            tried += 1

    def test_close_to_a_point(self):
        # Just above its lowest corner a triangle is still far too narrow for what it must give up.
        part = Fraction(1, 10 ** 4)
        first = [pts((-5, 10), (0, 0), (5, 10)), rect(10, part, 11, 10)]
        second = [first[0], leant(1, 10 - part, Fraction(1, 3), 20, part)]
        self.judge_both(first, second, simply=True)
        slim = [first[0], leant(part, 10 - part, Fraction(1, 3), 20, part)]
        other = [first[0], leant(part, 10 - part, Fraction(-1, 3), 20, part)]
        self.judge_both(slim, other, simply=True)

    def test_not_equal(self):
        square = [rect(0, 0, 2, 2)]
        for second in ([rect(0, 0, 2, 1)], [rect(0, 1, 2, 3)], [rect(0, 0, 1, 4)], [rect(0, 0, 1, 2)]):
            self.assertIsNone(level_paper(square, second))
            self.assertIsNone(level_paper(second, square))
        # The same widths with other crossings.
        one = [pts((0, 0), (2, 0), (1, 2))]
        for second in ([pts((0, 0), (2, 0), (0, 2))], [pts((0, 0), (2, 0), (2, 2))]):
            self.assertEqual([strip[2:4] for strip in level_sums(one)], [strip[2:4] for strip in level_sums(second)])
            self.assertIsNone(level_paper(one, second))
        # The same area alone.
        self.assertIsNone(level_paper([pts((0, 0), (2, 0), (0, 2))], [pts((0, 0), (2, 2), (0, 2))]))

    def test_changed_a_little(self):
        source = seeded(174)
        for _ in range(10):
            figure = random_figure(source, 2)
            second = laid(random_paper(source, figure, "level", 1))
            self.assertIsNone(level_paper(figure, second[1:]))
            lifted = [carried_polygon((0, at(0, Fraction(1, 10 ** 9))), second[0])] + second[1:]
            self.assertIsNone(level_paper(figure, lifted))


class Form(LevelCase):
    def test_arguments_stay_and_answers_are_new(self):
        source = seeded(175)
        figure = random_figure(source, 2)
        second = laid(random_paper(source, figure, "level", 1))
        before = copy.deepcopy((figure, second))
        for function, arguments in ((level_paper, (figure, second)), (level_paper, ([], [])),
                                    (lean, ((1, 1), (1, 1), (0, 1))), (lean, ((1, 1), (2, 3), (-5, 1)))):
            answer = function(*arguments)
            again = function(*arguments)
            self.assertEqual(answer, again)
            self.assertTrue(all(well_written(polygon) for polygon, _ in answer))
            answer.append("more")
            self.assertEqual((figure, second), before)
            self.assertEqual(function(*arguments), again)
