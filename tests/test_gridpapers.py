import copy
import unittest
from fractions import Fraction
from unittest import mock

from cutandlaid import gridpapers
from cutandlaid.gridpapers import fold, grid_paper
from cutandlaid.judging import find_fault
from cutandlaid.sums import covers
from tests.helpers import (area_of, at, carried_polygon, common_areas, in_one_form, is_motion_of, is_right,
                           is_right_figure, pts, random_figure, random_paper, rect, seeded, split, well_written, xy)

HALF = Fraction(1, 2)
GRIDS = ("grid", "grid2", "grid4")
FIELD = {"grid": (1, 1), "grid2": (1, HALF), "grid4": (HALF, HALF)}
SQUARE = [rect(0, 0, 1, 1)]


def laid(paper):
    return [carried_polygon(motion, polygon) for polygon, motion in paper]


class GridCase(unittest.TestCase):
    def judge_fold(self, figure, group, simply=False):
        """All that point 21 tells of a folding; simply where the pieces are too many to compare each two."""
        layers = fold(figure, group)
        self.assertIs(type(layers), list)
        wide, tall = FIELD[group]
        for polygon, motion in layers:
            self.assertTrue(well_written(polygon))
            self.assertTrue(all(0 <= x <= wide and 0 <= y <= tall for x, y in map(xy, polygon)), polygon)
            self.assertTrue(is_motion_of(motion, group), motion)
        pieces = laid(layers)
        self.assertEqual(area_of(pieces), area_of(figure))
        if simply:
            self.assertIsNone(find_fault([(piece, (0, (0, 0, 1))) for piece in pieces], figure, figure, group))
        else:
            self.assertTrue(is_right_figure(pieces))
            self.assertEqual(common_areas(pieces, figure), area_of(figure))
        return layers

    def judge_paper(self, first, second, group, simply=False):
        paper = grid_paper(first, second, group)
        self.assertIs(type(paper), list)
        self.assertTrue(all(type(pair) is tuple and len(pair) == 2 for pair in paper))
        self.assertIsNone(find_fault(paper, first, second, group))
        if not simply:
            self.assertTrue(is_right(paper, first, second, group))
        return paper


class Fold(GridCase):
    def test_by_hand(self):
        self.assertEqual(fold(SQUARE, "grid"), [(rect(0, 0, 1, 1), (0, (0, 0, 1)))])
        self.assertEqual(sorted(fold([rect(-1, 3, 0, 4)], "grid2")),
                         [(rect(0, 0, 1, HALF), (0, (-1, 3, 1))), (rect(0, 0, 1, HALF), (2, (0, 4, 1)))])
        self.assertEqual({motion for _, motion in fold(SQUARE, "grid4")},
                         {(0, (0, 0, 1)), (1, (1, 0, 1)), (2, (1, 1, 1)), (3, (0, 1, 1))})

    def test_empty(self):
        for group in GRIDS:
            self.assertEqual(fold([], group), [])

    def test_each_square_around_the_origin(self):
        # A triangle that has no symmetry, in each quarter of some squares on both sides of both axes.
        for group in GRIDS:
            for k in range(-4, 4):
                for j in range(-4, 4):
                    x, y = Fraction(k, 2), Fraction(j, 2)
                    figure = [pts((x, y), (x + Fraction(1, 3), y), (x, y + Fraction(1, 5)))]
                    self.assertEqual(len(self.judge_fold(figure, group)), 1)

    def test_on_the_border_of_the_field(self):
        tenth = Fraction(1, 10)
        figures = [
            [rect(-1, -1, 2, 2)], [rect(1, 0, 2, 1), rect(0, 1, 1, 2)],
            [rect(0, HALF, HALF, 1), rect(HALF, 0, 1, HALF)],
            [pts((-1, 0), (0, -1), (1, 0), (0, 1))], [pts((-1, 1), (0, 0), (1, 1), (0, 2))],
            [rect(-tenth, -tenth, tenth, tenth)], [rect(HALF - tenth, HALF - tenth, HALF + tenth, HALF + tenth)],
            [pts((1, 1), (2, 1 + tenth), (2, 2))], [pts((0, HALF), (HALF, 0), (1, HALF), (HALF, 1))],
            [pts((0, 0), (tenth, -1), (1, HALF))], [rect(1 - tenth, 0, 1, 5), rect(1, 0, 1 + tenth, 5)],
        ]
        for figure in figures:
            for group in GRIDS:
                self.judge_fold(figure, group)

    def test_many(self):
        source = seeded(161)
        for group in GRIDS:
            for many in (1, 3):
                self.judge_fold(random_figure(source, many), group)

    def test_great_denominators(self):
        part = Fraction(1, 10 ** 12)
        for group in GRIDS:
            self.judge_fold([rect(-part, 1 - part, part, 1 + part)], group)
            self.judge_fold([pts((part, -3 + part), (2, Fraction(7, 10 ** 12 - 11)), (1 - part, 1))], group)

    def test_many_squares(self):
        for group in GRIDS:
            for figure in ([rect(-7, -2, 43, 20)], [pts((-20, 3), (31, -9), (7, 44), (-11, 30))]):
                self.judge_fold(figure, group, simply=True)

    def test_layers_tell_the_covers(self):
        source = seeded(162)
        for group in GRIDS:
            figure = random_figure(source, 4)
            layers = fold(figure, group)
            for _ in range(8):
                x, y = (Fraction(source.randrange(1, 97), 97 * 2) * size * 2 for size in FIELD[group])
                holding = sum(common_areas([polygon], [rect(x, y, x + Fraction(1, 10 ** 9), y + Fraction(1, 10 ** 9))])
                              for polygon, _ in layers) * 10 ** 18
                self.assertEqual(holding, covers(figure, at(x + Fraction(1, 10 ** 10), y + Fraction(1, 10 ** 11)), group))


class GridPapers(GridCase):
    def test_one_cut_and_its_pieces_moved(self):
        source = seeded(163)
        for group in GRIDS:
            for cuts in (0, 1, 2):
                figure = random_figure(source, 2)
                paper = random_paper(source, figure, group, cuts)
                self.judge_paper(figure, laid(paper), group)
                self.judge_paper(laid(paper), figure, group)

    def test_two_cuts(self):
        source = seeded(164)
        for group in GRIDS:
            figure = random_figure(source, 2)
            first = laid(random_paper(source, figure, group, 1))
            self.judge_paper(first, laid(random_paper(source, figure, group, 2)), group)

    def test_without_polygons_that_fit(self):
        # What is left when no polygons fit as a whole is folded; here that is everything.
        source = seeded(165)
        with mock.patch.object(gridpapers, "matched_whole", lambda first, second, group: ([], first, second)):
            for group in GRIDS:
                for cuts in (0, 2):
                    figure = random_figure(source, 3)
                    second = laid(random_paper(source, figure, group, cuts))
                    self.judge_paper(figure, second, group, simply=True)
                    self.assertIsNone(grid_paper(figure, second[1:], group))
            self.judge_paper([rect(0, 0, 30, 1)], [rect(7, 7, 12, 13)], "grid", simply=True)
            self.judge_paper([rect(0, 0, 7, HALF)], [rect(7, 7, 14, 7 + HALF)], "grid2", simply=True)

    def test_rectangles_of_other_forms(self):
        for group in GRIDS:
            self.judge_paper([rect(0, 0, 6, 1)], [rect(5, -3, 7, 0)], group)
            self.judge_paper([rect(0, 0, 2, 2)], [pts((0, 0), (2, 0), (4, 2), (2, 2))], group)
            self.judge_paper([pts((0, 0), (1, 0), (2, 1), (1, 1))], SQUARE, group)
        self.judge_paper([rect(0, 0, HALF, 1)], [rect(0, 0, 1, HALF)], "grid4")

    def test_not_equal(self):
        for group in GRIDS:
            self.assertIsNone(grid_paper(SQUARE, [], group))
            self.assertIsNone(grid_paper([], SQUARE, group))
            self.assertIsNone(grid_paper(SQUARE, [rect(0, 0, 1, 2)], group))
            # The same area, but not the same covers.
            self.assertIsNone(grid_paper([rect(0, 0, HALF, HALF)], [rect(Fraction(1, 4), 0, Fraction(3, 4), HALF)], group))
        self.assertIsNone(grid_paper(SQUARE, [rect(0, 0, HALF, 2)], "grid"))

    def test_equal_by_a_greater_group_alone(self):
        corner = [pts((0, 0), (Fraction(1, 3), 0), (0, Fraction(1, 5)))]
        for k, least in ((2, "grid2"), (1, "grid4"), (3, "grid4")):
            second = [carried_polygon((k, at(5, -3)), corner[0])]
            for group in GRIDS:
                if GRIDS.index(group) < GRIDS.index(least):
                    self.assertIsNone(grid_paper(corner, second, group))
                else:
                    self.judge_paper(corner, second, group)
        # Two halves of a square, one of which was turned.
        halves = [pts((0, 0), (HALF, 0), (0, HALF)), pts((HALF, 0), (HALF, HALF), (0, HALF))]
        turned = [pts((0, 0), (HALF, 0), (0, HALF)), pts((3, 0), (3 + HALF, 0), (3, HALF))]
        self.assertIsNone(grid_paper(halves, turned, "grid"))
        self.judge_paper(halves, [halves[0], carried_polygon((2, at(4, 4)), halves[1])], "grid2")

    def test_slid_by_a_fraction(self):
        # A slide by a fraction is no motion of a grid group, but a strip around all of the field stays one.
        self.judge_paper([rect(0, 0, 3, HALF)], [rect(HALF, 0, 3 + HALF, HALF)], "grid")
        self.assertIsNone(grid_paper([rect(0, 0, 3, HALF)], [rect(0, HALF, 3, 1)], "grid"))
        self.judge_paper([rect(0, 0, 3, HALF)], [rect(0, HALF, 3, 1)], "grid2")

    def test_none_just_where_the_covers_differ(self):
        source = seeded(166)
        for _ in range(40):
            group = source.choice(GRIDS)
            first = [rect(Fraction(source.randrange(-4, 5), 2), 0, 3, Fraction(source.randrange(1, 5), 2))]
            second = [rect(0, Fraction(source.randrange(-4, 1), 2), Fraction(source.randrange(1, 5), 2), 2)]
            alike = all(covers(first, at(Fraction(x, 4), Fraction(y, 4)), group)
                        == covers(second, at(Fraction(x, 4), Fraction(y, 4)), group) for x in (1, 3) for y in (1, 3))
            paper = grid_paper(first, second, group)
            self.assertEqual(paper is not None, alike)
            if alike:
                self.judge_paper(first, second, group)

    def test_empty(self):
        for group in GRIDS:
            self.assertEqual(grid_paper([], [], group), [])


class Form(GridCase):
    def test_arguments_stay_and_answers_are_new(self):
        source = seeded(167)
        figure = random_figure(source, 2)
        second = [part for polygon in figure for part in split(source, polygon, 1)]
        before = copy.deepcopy((figure, second))
        for group in GRIDS:
            for function, arguments in ((fold, (figure, group)), (grid_paper, (figure, second, group)),
                                        (grid_paper, ([], [], group)), (fold, ([], group))):
                answer = function(*arguments)
                again = function(*arguments)
                self.assertEqual(answer, again)
                answer.append("more")
                self.assertEqual((figure, second), before)
                self.assertEqual(function(*arguments), again)

    def test_pieces_and_motions_in_their_one_form(self):
        source = seeded(168)
        figure = random_figure(source, 3)
        paper = grid_paper(figure, laid(random_paper(source, figure, "grid4", 1)), "grid4")
        for polygon, (k, v) in paper:
            self.assertTrue(well_written(polygon))
            self.assertIn(k, range(4))
            self.assertTrue(in_one_form(v))
