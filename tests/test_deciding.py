import copy
import unittest
from fractions import Fraction

from cutandlaid.deciding import decide, equal_groups, least_groups
from cutandlaid.groups import GROUPS, lies_in
from cutandlaid.judging import find_fault
from cutandlaid.witnesses import is_witness
from tests.helpers import (area_of, at, carried_polygon, in_one_form, pts, random_figure, random_paper, rect,
                           seeded, xy)
from tests.test_levelpapers import laid, leant

HALF = Fraction(1, 2)
SQUARE = [rect(0, 0, 1, 1)]
AREA = ("witness", ("area",))
GRIDS = ("grid", "grid2", "grid4")


class DecidingCase(unittest.TestCase):
    def judge(self, first, second, group):
        """The word that is told; what is told with it is judged."""
        answer = decide(first, second, group)
        self.assertIs(type(answer), tuple)
        word, told = answer
        if word == "paper":
            self.assertIsNone(find_fault(told, first, second, group))
        else:
            self.assertEqual(word, "witness")
            self.judge_witness(told, first, second, group)
        self.assertEqual(word == "paper", group in equal_groups(first, second))
        return word

    def judge_witness(self, witness, first, second, group):
        self.assertIs(type(witness), tuple)
        self.assertTrue(is_witness(witness, first, second, group), (witness, group))
        if witness[0] == "covers":
            self.assertTrue(in_one_form(witness[1]))
        if witness[0] == "level":
            n, d = witness[1]
            self.assertEqual((Fraction(n, d).numerator, Fraction(n, d).denominator), (n, d))
            self.assertNotIn(Fraction(n, d), {xy(p)[1] for polygon in first + second for p in polygon})

    def judge_all(self, first, second, expected):
        """Whether the figures are equal by the expected groups and no others."""
        self.assertEqual(equal_groups(first, second), expected)
        self.assertEqual(equal_groups(second, first), expected)
        for group in GROUPS:
            self.assertEqual(self.judge(first, second, group), "paper" if group in expected else "witness")
        least = [group for group in expected
                 if not any(other != group and lies_in(other, group) for other in expected)]
        self.assertEqual(least_groups(first, second), least)


class Decide(DecidingCase):
    def test_both_empty_or_one(self):
        for group in GROUPS:
            self.assertEqual(decide([], [], group), ("paper", []))
            self.assertEqual(decide(SQUARE, [], group), AREA)
            self.assertEqual(decide([], SQUARE, group), AREA)

    def test_same_figure(self):
        source = seeded(191)
        figure = random_figure(source, 3)
        for group in GROUPS:
            self.assertEqual(self.judge(figure, figure, group), "paper")

    def test_moved_by_each_group(self):
        source = seeded(192)
        for group in GROUPS:
            for many, cuts in ((1, 0), (2, 1), (1, 2)):
                figure = random_figure(source, many)
                second = laid(random_paper(source, figure, group, cuts))
                for other in GROUPS:
                    word = self.judge(figure, second, other)
                    if lies_in(group, other):
                        self.assertEqual(word, "paper")

    def test_unlike_areas(self):
        part = Fraction(1, 10 ** 12)
        for group in GROUPS:
            self.assertEqual(decide(SQUARE, [rect(0, 0, 1, 1 + part)], group), AREA)

    def test_same_area(self):
        source = seeded(193)
        for group in GROUPS:
            for _ in range(4):
                first, second = random_figure(source, 2), random_figure(source, 2)
                missing = area_of(first) - area_of(second)
                (first if missing < 0 else second).append(rect(100, 0, 100 + abs(missing), 1))
                word = self.judge(first, second, group)
                if group in ("free2", "free4"):
                    self.assertEqual(word, "paper")

    def test_slid_a_little(self):
        # Only where the figures are does anything tell them apart, and that by little.
        part = Fraction(1, 10 ** 6)
        triangle = [pts((0, 0), (1, 0), (HALF, Fraction(3, 4)))]
        for group in GRIDS:
            for vector in (at(part, 0), at(0, part), at(3 + part, -part)):
                self.assertEqual(self.judge(triangle, [carried_polygon((0, vector), triangle[0])], group), "witness")
        self.assertEqual(self.judge(triangle, [carried_polygon((0, at(5, part)), triangle[0])], "level"), "witness")

    def test_covers_that_differ_in_a_small_place(self):
        tiny = Fraction(1, 10 ** 5)
        for x, y in ((0, 0), (HALF, HALF), (1 - tiny, 0), (Fraction(1, 3), HALF - tiny)):
            first = [rect(x, y, x + tiny, y + tiny), rect(7, 7, 9, 9)]
            second = [rect(x + 5, y + tiny, x + 5 + tiny, y + 2 * tiny), rect(17, 7, 19, 9)]
            for group in GRIDS:
                self.assertEqual(self.judge(first, second, group), "witness")

    def test_level_alone_differs(self):
        for second in ([rect(0, 1, 1, 2)], [rect(0, 0, HALF, 1), rect(5, 3, 5 + HALF, 4)],
                       [rect(0, 0, 2, HALF)], [rect(0, HALF, 1, 3 * HALF)]):
            self.assertEqual(self.judge(SQUARE, second, "level"), "witness")
            self.assertEqual(self.judge(second, SQUARE, "level"), "witness")
        # The same widths and other crossings, which the edge sums do not tell.
        steep = [leant(Fraction(1), Fraction(1), Fraction(1)), leant(Fraction(1), Fraction(1), Fraction(-1), 9, 9)]
        first = [pts((0, 0), (2, 0), (2, 2)), pts((5, 4), (7, 6), (5, 6))]
        second = [pts((0, 0), (2, 2), (0, 2)), pts((5, 4), (7, 4), (7, 6))]
        self.assertEqual(self.judge(first, second, "level"), "witness")
        self.assertEqual(self.judge(first, second, "free"), "paper")
        self.assertEqual(self.judge(steep, [rect(0, 0, 1, 1), rect(9, 9, 10, 10)], "level"), "paper")


class EqualGroups(DecidingCase):
    def test_order(self):
        self.judge_all([], [], list(GROUPS))
        self.judge_all(SQUARE, [], [])
        self.judge_all(SQUARE, SQUARE, list(GROUPS))
        self.assertEqual(least_groups(SQUARE, SQUARE), ["level", "grid"])
        self.assertEqual(least_groups(SQUARE, []), [])

    def test_each_group(self):
        triangle = pts((0, 0), (Fraction(1, 3), 0), (0, Fraction(1, 5)))
        slid = {"level": at(Fraction(1, 7), 0), "grid": at(3, -2), "free": at(Fraction(1, 7), Fraction(2, 9))}
        self.judge_all([triangle], [carried_polygon((0, slid["level"]), triangle)], ["level", "free", "free2", "free4"])
        self.judge_all([triangle], [carried_polygon((0, slid["grid"]), triangle)],
                       ["grid", "grid2", "grid4", "free", "free2", "free4"])
        self.judge_all([triangle], [carried_polygon((0, slid["free"]), triangle)], ["free", "free2", "free4"])
        self.judge_all([triangle], [carried_polygon((2, slid["grid"]), triangle)],
                       ["grid2", "grid4", "free2", "free4"])
        self.judge_all([triangle], [carried_polygon((3, slid["grid"]), triangle)], ["grid4", "free2", "free4"])
        self.judge_all([triangle], [carried_polygon((1, slid["free"]), triangle)], ["free2", "free4"])
        self.judge_all([triangle], [pts((0, 0), (Fraction(1, 5), 0), (0, Fraction(1, 3)))], ["free2", "free4"])

    def test_least(self):
        triangle = pts((0, 0), (Fraction(1, 3), 0), (0, Fraction(1, 5)))
        for motion, least in (((0, at(2, 0)), ["level", "grid"]), ((0, at(0, 2)), ["grid"]),
                              ((0, at(HALF, 0)), ["level"]), ((0, at(0, HALF)), ["free"]),
                              ((2, at(1, 1)), ["grid2"]), ((1, at(1, 1)), ["grid4", "free2"]),
                              ((2, at(Fraction(1, 7), 1)), ["free2"])):
            self.assertEqual(least_groups([triangle], [carried_polygon(motion, triangle)]), least)

    def test_many(self):
        source = seeded(194)
        for _ in range(6):
            figure = random_figure(source, 2)
            group = source.choice(GROUPS)
            second = laid(random_paper(source, figure, group, 1))
            equal = equal_groups(figure, second)
            self.assertEqual(equal, [other for other in GROUPS if decide(figure, second, other)[0] == "paper"])
            self.assertTrue(all(other in equal for other in GROUPS if lies_in(group, other)))


class Form(DecidingCase):
    def test_arguments_stay_and_answers_are_new(self):
        source = seeded(195)
        figure = random_figure(source, 2)
        second = laid(random_paper(source, figure, "grid2", 1))
        before = copy.deepcopy((figure, second))
        for group in GROUPS:
            answer, again = decide(figure, second, group), decide(figure, second, group)
            self.assertEqual(answer, again)
            if answer[0] == "paper":
                self.assertIsNot(answer[1], again[1])
                answer[1].append("more")
            self.assertEqual((figure, second), before)
            self.assertEqual(decide(figure, second, group), again)
        for function in (equal_groups, least_groups):
            answer = function(figure, second)
            answer.append("more")
            self.assertEqual(function(figure, second), answer[:-1])
            self.assertEqual((figure, second), before)
