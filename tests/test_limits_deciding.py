"""Point 28 for folding, for papers that are looked for and for deciding: great figures in exact numbers."""

import unittest
from fractions import Fraction
from unittest import mock

from cutandlaid import freepapers, gridpapers, levelpapers
from cutandlaid.deciding import decide, equal_groups
from cutandlaid.freepapers import free_paper, half_paper
from cutandlaid.gridpapers import fold, grid_paper
from cutandlaid.groups import GROUPS, lies_in
from cutandlaid.judging import find_fault
from cutandlaid.levelpapers import level_paper
from cutandlaid.witnesses import is_witness
from tests.helpers import area_of, at, carried_polygon, hull, pts, random_paper, rect, seeded
from tests.test_levelpapers import laid, leant, nothing_whole
from tests.test_limits import FINEST
from tests.test_limits_sums import RING

GRIDS = ("grid", "grid2", "grid4")


def great(source, x, y, fine, finest):
    """A polygon with twelve corners, almost 100 wide; its corners differ by multiples of 1 / fine."""
    dx, dy = (Fraction(source.randrange(finest), finest) for _ in range(2))
    corners = [(x + dx + Fraction(a * 18 * fine // 10 + source.randrange(fine // 9 + 1), fine),
                y + dy + Fraction(b * 18 * fine // 10 + source.randrange(fine // 9 + 1), fine)) for a, b in RING]
    return pts(*hull(corners))


def great_figure(source, many, fine, finest):
    return [great(source, 120 * (k % 14) - 900, 120 * (k // 14), fine, finest) for k in range(many)]


class Grids(unittest.TestCase):
    def test_fold(self):
        source = seeded(201)
        for group in GRIDS:
            figure = great_figure(source, 2, FINEST, FINEST)
            layers = fold(figure, group)
            self.assertGreater(len(layers), 10000)
            self.assertEqual(area_of(polygon for polygon, _ in layers), area_of(figure))
            pieces = [carried_polygon(motion, polygon) for polygon, motion in layers]
            self.assertIsNone(find_fault([(piece, (0, (0, 0, 1))) for piece in pieces], figure, figure, "level"))

    def test_many_polygons(self):
        source = seeded(202)
        figure = great_figure(source, 196, 9973, FINEST)
        for group in GRIDS:
            second = laid(random_paper(source, figure, group, 0))
            self.assertIsNone(find_fault(grid_paper(figure, second, group), figure, second, group))
        figure = figure[:98]
        for group in GRIDS:
            second = laid(random_paper(source, figure, group, 1))
            self.assertIsNone(find_fault(grid_paper(figure, second, group), figure, second, group))

    def test_folded(self):
        source = seeded(203)
        with mock.patch.object(gridpapers, "matched_whole", nothing_whole):
            for group in GRIDS:
                figure = great_figure(source, 6, 9973, FINEST)
                second = laid(random_paper(source, figure, group, 1))
                self.assertIsNone(find_fault(grid_paper(figure, second, group), figure, second, group))

    def test_not_equal(self):
        source = seeded(204)
        figure = great_figure(source, 60, FINEST, FINEST)
        second = laid(random_paper(source, figure, "grid", 0))
        second[0] = carried_polygon((0, at(Fraction(1, FINEST), 5)), second[0])
        for group in GRIDS:
            self.assertIsNone(grid_paper(figure, second, group))
            word, witness = decide(figure, second, group)
            self.assertEqual(word, "witness")
            self.assertTrue(is_witness(witness, figure, second, group))
        self.assertEqual(equal_groups(figure, second), ["free", "free2", "free4"])


class WithoutGrids(unittest.TestCase):
    def judge(self, figure, second, group):
        for other in GROUPS:
            word, told = decide(figure, second, other)
            if lies_in(group, other):
                self.assertEqual(word, "paper")
            if word == "paper":
                self.assertIsNone(find_fault(told, figure, second, other))
            else:
                self.assertTrue(is_witness(told, figure, second, other))

    def test_sixteen_polygons(self):
        source = seeded(205)
        for group in GROUPS:
            figure = great_figure(source, 16, 10 ** 4, 10 ** 8 - 11)
            self.judge(figure, laid(random_paper(source, figure, group, 0)), group)
            figure = great_figure(source, 7, 9973, 10 ** 8 - 11)
            self.judge(figure, laid(random_paper(source, figure, group, 1)), group)

    def test_without_polygons_that_fit(self):
        source = seeded(206)
        for group, module, paper_of in (("level", levelpapers, level_paper), ("free", freepapers, free_paper),
                                        ("free2", freepapers, half_paper)):
            with mock.patch.object(module, "matched_whole", nothing_whole):
                for many, cuts in ((16, 0), (2, 1)):
                    figure = great_figure(source, many, 10 ** 4, 10 ** 8 - 11)
                    second = laid(random_paper(source, figure, group, cuts))
                    self.assertIsNone(find_fault(paper_of(figure, second), figure, second, group))

    def test_sixteen_to_one(self):
        # Sixteen bars, each with a slope of its own, and one rectangle.
        first = [leant(Fraction(5, 16 + k), Fraction(90), Fraction(k - 8, 90), 20 * k) for k in range(16)]
        second = [rect(-500, 0, sum(Fraction(5, 16 + k) for k in range(16)) - 500, 90)]
        self.judge(first, second, "level")
        tall = [rect(7, 7, 7 + Fraction(area_of(first), 50), 57)]
        self.judge(first, tall, "free")

    def test_same_area_alone(self):
        source = seeded(207)
        first = great_figure(source, 15, 10 ** 4, 10 ** 8 - 11)
        second = great_figure(source, 14, 10 ** 4 - 7, 10 ** 8 - 39)
        missing = area_of(first) - area_of(second)
        left = Fraction(100000 - 300)
        for figure, more in ((second, missing), (first, -missing)):
            if more > 0:
                figure.append(rect(left, 0, left + more / 95, 95))
        self.judge(first, second, "free2")
