import copy
import unittest
from fractions import Fraction

from cutandlaid.motions import follow, moved, moved_figure, moved_polygon, undo
from tests.helpers import (at, carried, carried_polygon, hull, in_one_form, pts, random_polygon, rect,
                           seeded, spread, well_written, xy)

HALF = Fraction(1, 2)
STAY = (0, (0, 0, 1))
VECTORS = pts((0, 0), (3, -2), (-3, 5), (HALF, Fraction(-7, 3)), (Fraction(-10 ** 25 - 1, 3), 10 ** 24),
              (Fraction(5, 6), Fraction(1, 10 ** 22)), (0, -1), (-HALF, -HALF))
MOTIONS = [(k, v) for k in range(4) for v in VECTORS]
POINTS = pts((0, 0), (1, 0), (-2, 3), (HALF, Fraction(-1, 3)), (10 ** 21, Fraction(-1, 10 ** 21)),
             (Fraction(-5, 6), Fraction(1, 6)))


class Moved(unittest.TestCase):
    def test_quarter_turns_go_against_the_clock(self):
        p = at(2, Fraction(1, 3))
        turned = [at(2, Fraction(1, 3)), at(Fraction(-1, 3), 2), at(-2, Fraction(-1, 3)), at(Fraction(1, 3), -2)]
        for k in range(4):
            self.assertEqual(moved((k, (0, 0, 1)), p), turned[k])

    def test_the_slide_comes_after_the_turns(self):
        self.assertEqual(moved((1, (10, 0, 1)), (1, 0, 1)), (10, 1, 1))
        self.assertEqual(moved((2, (-1, 5, 2)), (3, 4, 1)), (-7, -3, 2))
        self.assertEqual(moved((3, (0, -1, 1)), (0, 1, 2)), (1, -2, 2))

    def test_all(self):
        for motion in MOTIONS:
            for p in POINTS:
                q = moved(motion, p)
                self.assertTrue(in_one_form(q))
                self.assertEqual(xy(q), carried(motion, xy(p)))

    def test_a_place_that_becomes_whole(self):
        self.assertEqual(moved((1, (1, 1, 2)), (1, 1, 2)), (0, 1, 1))
        self.assertEqual(moved((2, (5, 7, 6)), (5, 7, 6)), (0, 0, 1))


class FollowAndUndo(unittest.TestCase):
    def test_first_the_one_and_then_the_other(self):
        for first in MOTIONS:
            for second in MOTIONS:
                both = follow(first, second)
                self.judge_form(both)
                for p in POINTS[:4]:
                    self.assertEqual(moved(both, p), moved(second, moved(first, p)))

    def judge_form(self, motion):
        self.assertIs(type(motion), tuple)
        self.assertEqual(len(motion), 2)
        self.assertIs(type(motion[0]), int)
        self.assertIn(motion[0], range(4))
        self.assertTrue(in_one_form(motion[1]))

    def test_the_order_matters(self):
        self.assertEqual(follow((1, (0, 0, 1)), (0, (5, 0, 1))), (1, (5, 0, 1)))
        self.assertEqual(follow((0, (5, 0, 1)), (1, (0, 0, 1))), (1, (0, 5, 1)))

    def test_undo(self):
        self.assertEqual(undo((1, (3, 1, 2))), (3, (-1, 3, 2)))
        for motion in MOTIONS:
            back = undo(motion)
            self.judge_form(back)
            self.assertEqual(follow(motion, back), STAY)
            self.assertEqual(follow(back, motion), STAY)
            self.assertEqual(undo(back), motion)
            for p in POINTS:
                self.assertEqual(moved(back, moved(motion, p)), p)

    def test_undo_of_two(self):
        for first in MOTIONS[::3]:
            for second in MOTIONS[::5]:
                self.assertEqual(undo(follow(first, second)), follow(undo(second), undo(first)))


class Polygons(unittest.TestCase):
    def test_the_one_form_for_each_quarter_turn(self):
        polygon = pts((0, 0), (2, 1), (1, 3))
        self.assertEqual([moved_polygon((k, (0, 0, 1)), polygon) for k in range(4)], [
            pts((0, 0), (2, 1), (1, 3)), pts((-3, 1), (0, 0), (-1, 2)),
            pts((-2, -1), (-1, -3), (0, 0)), pts((0, 0), (1, -2), (3, -1))])

    def test_squares(self):
        for motion in MOTIONS:
            polygon = moved_polygon(motion, rect(-1, 0, 2, HALF))
            self.assertTrue(well_written(polygon))
            self.assertEqual(spread([xy(p) for p in polygon]), Fraction(3, 2))

    def test_many(self):
        source = seeded(61)
        for _ in range(40):
            polygon = random_polygon(source)
            for motion in MOTIONS[::3]:
                there = moved_polygon(motion, polygon)
                self.assertTrue(well_written(there))
                self.assertEqual(there, carried_polygon(motion, polygon))
                self.assertEqual(moved_polygon(undo(motion), there), polygon)

    def test_figures_keep_their_order(self):
        figure = [rect(k, -k, k + 1, 2) for k in (3, 1, 2)]
        for motion in MOTIONS:
            self.assertEqual(moved_figure(motion, figure), [carried_polygon(motion, p) for p in figure])
            self.assertEqual(moved_figure(motion, []), [])

    def test_arguments_stay_and_answers_are_new(self):
        figure = [rect(0, 0, 1, 1), pts((5, 5), (6, 5), (6, 7))]
        before = copy.deepcopy(figure)
        for motion in (STAY, (1, (1, 0, 2))):
            answer = moved_figure(motion, figure)
            again = moved_figure(motion, figure)
            self.assertEqual(answer, again)
            answer.append("more")
            self.assertEqual(figure, before)
            self.assertEqual(moved_figure(motion, figure), again)

    def test_the_helpers_agree_with_the_document(self):
        # One quarter turn of the corner (1, 0) leads to (0, 1).
        self.assertEqual(carried((1, (0, 0, 1)), (1, 0)), (0, 1))
        self.assertEqual(hull([(0, 0), (1, 0), (0, 1)]), [(0, 0), (1, 0), (0, 1)])
