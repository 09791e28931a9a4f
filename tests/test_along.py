import copy
import unittest
from fractions import Fraction
from math import gcd

from cutandlaid.along import along_equal, along_paper
from cutandlaid.judging import find_fault
from cutandlaid.levelpapers import level_paper
from tests.helpers import (at, carried_polygon, is_right, pts, random_figure, rect, seeded, split, well_written, xy)
from tests.test_levelpapers import leant

DIRECTIONS = [(p, q) for p in range(-3, 4) for q in range(-3, 4) if gcd(p, q) == 1]


def slid_along(source, figure, direction, cuts):
    """The pieces of a figure, each slid along a direction by so far that no two of them meet."""
    pieces = [piece for polygon in figure for piece in split(source, polygon, cuts)]
    figure = []
    for k, piece in enumerate(pieces):
        far = Fraction(200 * (k + 1) * source.choice((1, -1)) * 7 + source.randrange(20), source.choice((1, 2, 7)))
        figure.append(carried_polygon((0, at(far * direction[0], far * direction[1])), piece))
    return figure


class AlongCase(unittest.TestCase):
    def judge(self, first, second, direction, simply=False):
        self.assertIs(along_equal(first, second, direction), True)
        paper = along_paper(first, second, direction)
        self.assertIs(type(paper), list)
        p, q = direction
        for polygon, (k, (x, y, w)) in paper:
            self.assertTrue(well_written(polygon))
            self.assertEqual((k, x * q), (0, y * p))
        self.assertIsNone(find_fault(paper, first, second, "free"))
        if not simply:
            self.assertTrue(is_right(paper, first, second, "free"))

    def refuse(self, first, second, direction):
        self.assertIs(along_equal(first, second, direction), False)
        self.assertIsNone(along_paper(first, second, direction))


class Along(AlongCase):
    def test_slid(self):
        source = seeded(211)
        for direction in DIRECTIONS:
            figure = random_figure(source, 1)
            second = slid_along(source, figure, direction, 0)
            self.judge(figure, second, direction)
            # A direction and its opposite have the same slides.
            self.judge(figure, second, (-direction[0], -direction[1]))

    def test_cut_and_slid(self):
        source = seeded(212)
        for direction in ((1, 0), (-1, 0), (0, 1), (0, -1), (1, 1), (2, -3), (-3, 1)):
            figure = random_figure(source, 2)
            second = slid_along(source, figure, direction, 2)
            self.judge(figure, second, direction, simply=True)
            self.judge(second, figure, (-direction[0], -direction[1]), simply=True)
            other = slid_along(source, figure, direction, 1)
            self.judge(second, other, direction, simply=True)

    def test_leaned(self):
        square = [rect(0, 0, 2, 2)]
        self.judge(square, [leant(Fraction(2), Fraction(2), Fraction(3))], (1, 0))
        self.refuse(square, [leant(Fraction(2), Fraction(2), Fraction(3))], (0, 1))
        upright = [pts((0, 0), (2, 6), (2, 8), (0, 2))]
        self.judge(square, upright, (0, 1))
        self.judge(square, upright, (0, -1))
        self.refuse(square, upright, (1, 0))
        # A strip of the direction (1, 1), whose ends are cut in another way.
        self.judge([pts((0, 0), (5, 5), (5, 6), (0, 1))], [pts((-1, 0), (0, 0), (5, 5), (4, 5))], (1, 1))

    def test_equal_along_another_direction(self):
        source = seeded(213)
        for direction, others in (((1, 0), [(0, 1), (1, 1), (-3, 2)]), ((0, 1), [(1, 0), (1, 2)]),
                                  ((2, 1), [(1, 0), (1, 2), (-2, 1), (2, -1)])):
            figure = random_figure(source, 1)
            second = slid_along(source, figure, direction, 1)
            self.judge(figure, second, direction)
            for other in others:
                self.refuse(figure, second, other)

    def test_same_area_alone(self):
        for direction in DIRECTIONS:
            self.refuse([pts((0, 0), (2, 0), (0, 2))], [rect(0, 0, 1, 2)], direction)
            self.refuse([rect(0, 0, 1, 1)], [rect(0, 0, 1, 2)], direction)

    def test_empty(self):
        for direction in DIRECTIONS:
            self.assertIs(along_equal([], [], direction), True)
            self.assertEqual(along_paper([], [], direction), [])
            self.refuse([], [rect(0, 0, 1, 1)], direction)
            self.refuse([rect(0, 0, 1, 1)], [], direction)

    def test_level(self):
        source = seeded(214)
        for _ in range(5):
            figure = random_figure(source, 2)
            second = slid_along(source, figure, (1, 0), 1)
            self.assertEqual(along_paper(figure, second, (1, 0)), level_paper(figure, second))
            self.assertEqual(along_paper(figure, second[1:], (1, 0)), None)
            lifted = [carried_polygon((0, at(0, 1)), polygon) for polygon in second]
            self.assertEqual(along_equal(figure, lifted, (1, 0)), level_paper(figure, lifted) is not None)

    def test_great_denominators(self):
        source = seeded(215)
        far = at(Fraction(1, 10 ** 12 - 11), Fraction(7, 10 ** 12 - 39))
        figure = [carried_polygon((0, far), polygon) for polygon in random_figure(source, 3)]
        for direction in ((3, 2), (0, 1)):
            second = slid_along(source, figure, direction, 1)
            self.judge(figure, second, direction, simply=True)
            x, y = xy(far)
            off = [carried_polygon((0, at(y * direction[1] + x, x)), polygon) for polygon in second]
            self.refuse(figure, off, direction)

    def test_arguments_stay_and_answers_are_new(self):
        source = seeded(216)
        figure = random_figure(source, 2)
        second = slid_along(source, figure, (1, 2), 1)
        before = copy.deepcopy((figure, second))
        for arguments in ((figure, second, (1, 2)), ([], [], (1, 2))):
            answer = along_paper(*arguments)
            again = along_paper(*arguments)
            self.assertEqual(answer, again)
            answer.append("more")
            self.assertEqual(along_paper(*arguments), again)
            self.assertEqual(along_equal(*arguments), True)
            self.assertEqual((figure, second), before)
