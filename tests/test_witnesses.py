import copy
import unittest
from fractions import Fraction

from cutandlaid.witnesses import is_witness
from tests.helpers import TURNS, at, carried_polygon, pts, random_figure, random_paper, rect, seeded, split

HALF = Fraction(1, 2)
GROUPS = tuple(TURNS)
GRIDS = ("grid", "grid2", "grid4")
SQUARE = [rect(0, 0, 2, 2)]
LONG = [rect(0, 0, 4, 1)]
SMALL = [rect(0, 0, 1, 1)]
TRIANGLE = [pts((0, 0), (4, 0), (0, 2))]
# The same triangle after half a turn, at the same heights.
TURNED = [pts((0, 2), (4, 0), (4, 2))]
SLID = [pts((Fraction(1, 3), 0), (Fraction(13, 3), 0), (Fraction(1, 3), 2))]


class WitnessCase(unittest.TestCase):
    def judge(self, witness, first, second, groups):
        """It is a witness for these groups and for no other ones, in either order of the figures."""
        for group in GROUPS:
            self.assertIs(is_witness(witness, first, second, group), group in groups, (witness, group))
            self.assertIs(is_witness(witness, second, first, group), group in groups, (witness, group))


class Area(WitnessCase):
    def test_different_areas_are_a_witness_for_every_group(self):
        self.judge(("area",), SQUARE, SMALL, GROUPS)
        self.judge(("area",), SQUARE, [], GROUPS)
        self.judge(("area",), SQUARE, [rect(0, 0, 2, 2 + Fraction(1, 10 ** 12))], GROUPS)

    def test_equal_areas(self):
        self.judge(("area",), SQUARE, LONG, ())
        self.judge(("area",), SQUARE, SQUARE, ())
        self.judge(("area",), SQUARE, [rect(0, 0, 1, 2), rect(7, 0, 8, 2)], ())
        self.judge(("area",), [], [], ())


class Edges(WitnessCase):
    def test_different_sums(self):
        for direction in ((1, 0), (0, 1), (-2, 1)):
            self.judge(("edges", direction), TRIANGLE, SQUARE, ("level", "grid", "free"))
            self.judge(("edges", direction), TRIANGLE, [], ("level", "grid", "free"))
            self.judge(("edges", direction), TRIANGLE, TURNED, ("level", "grid", "free"))

    def test_equal_sums(self):
        for direction in ((1, 0), (0, 1), (-2, 1), (2, 1), (1, 1)):
            self.judge(("edges", direction), TRIANGLE, SLID, ())
            self.judge(("edges", direction), SQUARE, LONG, ())
            self.judge(("edges", direction), [], [], ())
        # The sums differ for other directions alone.
        self.judge(("edges", (2, 1)), TRIANGLE, TURNED, ())
        self.judge(("edges", (-1, 2)), TRIANGLE, SQUARE, ())

    def test_a_sum_that_is_missing_is_nought(self):
        house = [pts((0, 0), (4, 0), (4, 2), (0, 4))]
        self.judge(("edges", (1, 0)), house, SQUARE, ("level", "grid", "free"))
        self.judge(("edges", (0, 1)), house, [pts((0, 0), (4, 0), (0, 2))], ())
        self.judge(("edges", (-2, 1)), house, TRIANGLE, ())


class Level(WitnessCase):
    def test_other_widths(self):
        self.judge(("level", (1, 2)), SQUARE, LONG, ("level",))
        self.judge(("level", (3, 2)), SQUARE, LONG, ("level",))
        self.judge(("level", (1, 2)), SQUARE, [], ("level",))

    def test_other_crossings(self):
        # In the middle both are equally wide.
        self.judge(("level", (1, 1)), TRIANGLE, TURNED, ("level",))
        self.judge(("level", (1, 1)), [pts((0, 0), (4, 0), (1, 2))], TRIANGLE, ("level",))

    def test_no_difference(self):
        for y in ((1, 2), (1, 3), (-1, 1), (5, 1)):
            self.judge(("level", y), TRIANGLE, SLID, ())
        self.judge(("level", (3, 1)), SQUARE, LONG, ())
        self.judge(("level", (-1, 2)), SQUARE, LONG, ())
        self.judge(("level", (1, 2)), SQUARE, [rect(0, 0, 2, 1)], ())

    def test_at_a_height_of_a_corner(self):
        for y in ((0, 1), (1, 1), (2, 1)):
            self.judge(("level", y), SQUARE, LONG, ())
        self.judge(("level", (2, 1)), SQUARE, [], ())
        self.judge(("level", (1, 1)), [], LONG, ())


class Covers(WitnessCase):
    def test_different_covers(self):
        p = at(Fraction(1, 3), Fraction(1, 5))
        self.judge(("covers", p), SQUARE, SMALL, GRIDS)
        self.judge(("covers", p), SQUARE, [], GRIDS)
        narrow = [rect(0, 0, HALF, 2)]
        self.judge(("covers", p), narrow, [rect(HALF, 0, 1, 2)], ("grid",))
        # Turns may make up for what slides leave different, and the other way round.
        self.judge(("covers", at(Fraction(1, 3), Fraction(3, 5))), narrow, [rect(0, 0, 2, HALF)], ("grid",))
        self.judge(("covers", p), SMALL, [rect(0, 0, HALF, 1)], ("grid2", "grid4"))

    def test_equal_covers(self):
        p = at(Fraction(1, 3), Fraction(1, 5))
        self.judge(("covers", p), SQUARE, LONG, ())
        self.judge(("covers", p), SQUARE, SQUARE, ())

    def test_points_at_which_covers_are_not_told(self):
        for p in pts((0, 0), (HALF, 0), (0, Fraction(1, 5)), (7, 9)):
            self.judge(("covers", p), SQUARE, SMALL, ())
            self.judge(("covers", p), SQUARE, [], ())
            self.judge(("covers", p), [], SMALL, ())
        third = [rect(Fraction(1, 3), Fraction(1, 5), 1, 1)]
        self.judge(("covers", at(Fraction(1, 3), HALF)), third, [], ())
        # An edge that only turns lead to.
        self.judge(("covers", at(Fraction(2, 3), HALF)), third, [], ("grid",))


class Many(WitnessCase):
    def test_no_witness_for_figures_that_are_equal(self):
        source = seeded(101)
        for group in GROUPS:
            figure = random_figure(source, 3)
            other = [carried_polygon(motion, polygon) for polygon, motion in random_paper(source, figure, group)]
            witnesses = [("area",)]
            witnesses += [("edges", d) for d in ((1, 0), (0, 1), (1, 1), (-1, 1), (2, 1), (-3, 5), (7, 2))]
            witnesses += [("level", (n, 7)) for n in range(-40, 160, 11)]
            witnesses += [("covers", at(Fraction(n, 13), Fraction(n * n, 17))) for n in range(1, 13)]
            for witness in witnesses:
                if group not in ("grid2", "grid4", "free2", "free4") or witness[0] != "edges":
                    self.assertIs(is_witness(witness, figure, other, group), False)

    def test_other_polygons_of_the_same_figure(self):
        source = seeded(102)
        figure = random_figure(source, 2)
        finer = [part for polygon in figure for part in split(source, polygon, 2)]
        for group in GROUPS:
            for witness in (("area",), ("edges", (1, 0)), ("level", (1, 7)), ("covers", at(Fraction(1, 7), HALF))):
                self.assertIs(is_witness(witness, figure, finer, group), False)

    def test_arguments_stay(self):
        first, second = copy.deepcopy(SQUARE), copy.deepcopy(LONG)
        for witness in (("area",), ("edges", (1, 0)), ("level", (1, 2)), ("covers", (1, 1, 3))):
            for group in GROUPS:
                answer = is_witness(witness, first, second, group)
                self.assertIs(is_witness(witness, first, second, group), answer)
        self.assertEqual((first, second), (SQUARE, LONG))
