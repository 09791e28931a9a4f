import copy
import unittest
from fractions import Fraction

from cutandlaid.judging import find_fault
from cutandlaid.papers import beside, composed, identity, image, inverse, part
from tests.helpers import (TURNS, area_of, at, carried, carried_polygon, common_areas, in_one_form, inside,
                           is_right, is_right_figure, place_of, pts, random_figure, random_paper, rect,
                           seeded, split, well_written, where)

HALF = Fraction(1, 2)
STAY = (0, (0, 0, 1))
GROUPS = list(TURNS)
# A square whose halves are laid one beside the other, the second one after half a turn.
SQUARE = [rect(0, 0, 2, 2)]
LONG = [rect(0, 0, 4, 1)]
PAPER = [(rect(0, 0, 2, 1), STAY), (rect(0, 1, 2, 2), (2, at(4, 2)))]
# The long rectangle, cut aslant, is laid as one that stands upright.
TALL = [rect(10, 0, 11, 4)]
NEXT = [(pts((0, 0), (4, 0), (4, 1)), (1, at(11, 0))), (pts((0, 0), (4, 1), (0, 1)), (1, at(11, 0)))]


def laid(paper):
    return [carried_polygon(motion, polygon) for polygon, motion in paper]


def pieces(paper):
    return [polygon for polygon, _ in paper]


class PaperCase(unittest.TestCase):
    def judge(self, paper, first, second, group):
        self.assertIs(type(paper), list)
        self.assertTrue(all(type(pair) is tuple and len(pair) == 2 for pair in paper))
        self.assertTrue(is_right(paper, first, second, group))
        self.assertIsNone(find_fault(paper, first, second, group))


class IdentityAndInverse(PaperCase):
    def test_identity(self):
        self.assertEqual(identity([]), [])
        figure = [rect(2, 0, 3, 1), rect(0, 0, 1, 1)]
        self.assertEqual(identity(figure), [(figure[0], STAY), (figure[1], STAY)])
        for group in GROUPS:
            self.judge(identity(figure), figure, figure, group)

    def test_inverse(self):
        self.assertEqual(inverse([]), [])
        self.assertEqual(inverse(PAPER), [(rect(0, 0, 2, 1), STAY), (rect(2, 0, 4, 1), (2, at(4, 2)))])
        self.judge(inverse(PAPER), LONG, SQUARE, "grid2")

    def test_inverse_of_a_quarter_turn(self):
        self.assertEqual(inverse([(rect(0, 0, 2, 1), (1, at(1, HALF)))]),
                         [(rect(0, HALF, 1, Fraction(5, 2)), (3, at(-HALF, 1)))])

    def test_many(self):
        source = seeded(71)
        for group in GROUPS:
            for many in (1, 4):
                figure = random_figure(source, many)
                paper = random_paper(source, figure, group)
                self.judge(paper, figure, laid(paper), group)
                back = inverse(paper)
                self.assertEqual(pieces(back), laid(paper))
                self.judge(back, laid(paper), figure, group)
                self.assertEqual(inverse(back), paper)


class Composed(PaperCase):
    def judge_points(self, first, second, both):
        """Each point is moved as the one paper and then the other one do."""
        for polygon, motion in both:
            place = inside(polygon)
            there = where(first, place)
            self.assertIsNotNone(there)
            self.assertEqual(carried(motion, place), where(second, there))

    def test_two(self):
        both = composed(PAPER, NEXT)
        self.judge(both, SQUARE, TALL, "grid4")
        self.judge_points(PAPER, NEXT, both)
        motions = {motion for _, motion in both}
        self.assertEqual(motions, {(1, at(11, 0)), (3, at(9, 4))})

    def test_empty_papers(self):
        self.assertEqual(composed([], []), [])

    def test_with_the_identity(self):
        both = composed(PAPER, identity(LONG))
        self.judge(both, SQUARE, LONG, "grid2")
        self.judge_points(PAPER, identity(LONG), both)
        both = composed(identity(SQUARE), PAPER)
        self.judge(both, SQUARE, LONG, "grid2")
        self.judge_points(identity(SQUARE), PAPER, both)

    def test_there_and_back(self):
        both = composed(PAPER, inverse(PAPER))
        self.assertEqual(both, [(rect(0, 0, 2, 1), STAY), (rect(0, 1, 2, 2), STAY)])

    def test_many(self):
        source = seeded(72)
        for group in GROUPS:
            figure = random_figure(source, 2)
            first = random_paper(source, figure, group, 1)
            # The second figure is told by other polygons than the laid pieces.
            middle = [part for polygon in laid(first) for part in split(source, polygon, 1)]
            second = random_paper(source, middle, group, 1)
            both = composed(first, second)
            self.judge(both, figure, laid(second), group)
            self.judge_points(first, second, both)
            third = random_paper(source, laid(second), group, 0)
            long = composed(both, third)
            self.assertIsNone(find_fault(long, figure, laid(third), group))
            self.judge_points(both, third, long)

    def test_three_in_either_order(self):
        source = seeded(73)
        figure = random_figure(source, 2)
        first = random_paper(source, figure, "free4")
        second = random_paper(source, laid(first), "free4", 1)
        third = random_paper(source, laid(second), "free4", 1)
        one, other = composed(composed(first, second), third), composed(first, composed(second, third))
        for polygon, motion in one:
            self.assertEqual(where(other, inside(polygon)), carried(motion, inside(polygon)))
        self.assertEqual(area_of(pieces(one)), area_of(pieces(other)))


class PartAndImage(PaperCase):
    def judge_part(self, paper, figure):
        within = part(paper, figure)
        self.assertTrue(is_right_figure(pieces(within)))
        shared = common_areas(pieces(paper), figure)
        self.assertEqual(area_of(pieces(within)), shared)
        self.assertEqual(common_areas(pieces(within), figure), shared)
        self.assertEqual(common_areas(pieces(within), pieces(paper)), shared)
        for polygon, motion in within:
            self.assertEqual(carried(motion, inside(polygon)), where(paper, inside(polygon)))
        there = image(paper, figure)
        self.assertTrue(is_right_figure(there))
        self.assertEqual(area_of(there), shared)
        self.assertEqual(common_areas(there, laid(within)), shared)

    def test_by_hand(self):
        self.assertEqual(part(PAPER, [rect(0, HALF, 1, 3)]),
                         [(rect(0, HALF, 1, 1), STAY), (rect(0, 1, 1, 2), (2, at(4, 2)))])
        self.assertEqual(image(PAPER, [rect(0, HALF, 1, 3)]), [rect(0, HALF, 1, 1), rect(3, 0, 4, 1)])

    def test_nothing_in_common(self):
        for paper, figure in (([], []), (PAPER, []), ([], SQUARE), (PAPER, [rect(2, 0, 3, 1)]),
                              (PAPER, [rect(5, 5, 6, 6), rect(7, 5, 8, 6)])):
            self.assertEqual(part(paper, figure), [])
            self.assertEqual(image(paper, figure), [])

    def test_all_of_it(self):
        for figure in (SQUARE, [rect(-1, -1, 1, 3), rect(1, -1, 9, 9)]):
            self.judge_part(PAPER, figure)
            self.judge(part(PAPER, figure), SQUARE, LONG, "grid2")

    def test_many(self):
        source = seeded(74)
        for group in GROUPS:
            paper = random_paper(source, random_figure(source, 4), group)
            self.judge_part(paper, random_figure(source, 5))
            # What a paper brings back from an image is what it had in common with the figure.
            figure = random_figure(source, 5)
            back = image(inverse(paper), image(paper, figure))
            self.assertTrue(is_right_figure(back))
            shared = common_areas(pieces(paper), figure)
            self.assertEqual(area_of(back), shared)
            self.assertEqual(common_areas(back, figure), shared)


class Beside(PaperCase):
    def test_two_papers(self):
        other = [(rect(5, 5, 6, 6), (0, at(0, 5))), (rect(6, 5, 7, 6), (1, at(11, 10)))]
        second = [rect(5, 10, 6, 11), rect(5, 16, 6, 17)]
        self.judge(other, [rect(5, 5, 7, 6)], second, "grid4")
        self.judge(beside(PAPER, other), SQUARE + [rect(5, 5, 7, 6)], LONG + second, "grid4")
        for polygon, motion in beside(PAPER, other):
            place = inside(polygon)
            self.assertEqual(carried(motion, place), where(PAPER, place) or where(other, place))

    def test_empty_papers(self):
        self.assertEqual(beside([], []), [])
        self.judge(beside(PAPER, []), SQUARE, LONG, "grid2")
        self.judge(beside([], PAPER), SQUARE, LONG, "grid2")

    def test_many(self):
        source = seeded(75)
        for group in GROUPS:
            figure = random_figure(source, 6)
            paper = random_paper(source, figure, group, 1)
            first = [pair for pair in paper if pair[0][0][0] % 2]
            second = [pair for pair in paper if not pair[0][0][0] % 2]
            self.judge(beside(first, second), figure, laid(paper), group)


class Form(PaperCase):
    def test_pieces_and_motions_in_their_one_form(self):
        source = seeded(76)
        paper = random_paper(source, random_figure(source, 3), "free4")
        again = random_paper(source, laid(paper), "free4", 1)
        for answer in (inverse(paper), composed(paper, again), part(paper, random_figure(source, 5)),
                       beside(paper, [])):
            for polygon, (k, v) in answer:
                self.assertTrue(well_written(polygon))
                self.assertIn(k, range(4))
                self.assertTrue(in_one_form(v))

    def test_points_on_no_piece_are_not_moved(self):
        self.assertEqual(place_of(PAPER[0][0], 5, 5), -1)
        self.assertIsNone(where(PAPER, (5, 5)))

    def test_arguments_stay_and_answers_are_new(self):
        paper, more, figure = copy.deepcopy(PAPER), copy.deepcopy(NEXT), [rect(0, 0, 1, 1)]
        before = copy.deepcopy((paper, more, figure))
        asked = [(identity, (figure,)), (identity, ([],)), (inverse, (paper,)), (inverse, ([],)),
                 (composed, (paper, more)), (part, (paper, figure)), (image, (paper, figure)),
                 (beside, (paper, more)), (beside, (paper, [])), (beside, ([], paper))]
        for function, arguments in asked:
            answer = function(*arguments)
            self.assertTrue(all(answer is not argument for argument in arguments))
            again = function(*arguments)
            self.assertEqual(answer, again)
            answer.append("more")
            self.assertEqual((paper, more, figure), before)
            self.assertEqual(function(*arguments), again)
