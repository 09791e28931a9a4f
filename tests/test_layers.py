import copy
import unittest
from fractions import Fraction

from cutandlaid.layers import match
from tests.helpers import (area_of, at, common_area, common_areas, inside, place_of, pts, random_figure,
                           random_polygon, rect, seeded, split, well_written, xy)

HALF = Fraction(1, 2)
M, N, O = (0, (0, 0, 1)), (0, (5, 0, 1)), (2, (1, 1, 2))
SQUARE = rect(0, 0, 2, 2)
TRIANGLE = pts((0, 0), (3, 0), (0, 3))


def holding(layers, place):
    """The ascending motions of the layers that hold a place, None on an edge."""
    found = []
    for polygon, motion in layers:
        where = place_of(polygon, *place)
        if where == 0:
            return None
        if where == 1:
            found.append(motion)
    return sorted(found)


class MatchCase(unittest.TestCase):
    def judge(self, first, second, sample=None):
        """All that point 20 tells of a match; the places are tried within all polygons, or a sample."""
        answer = match(first, second)
        self.assertIs(type(answer), tuple)
        self.assertEqual([type(row) for row in answer], [list, list, list])
        matched, first_rest, second_rest = answer
        here = [(polygon, motion) for polygon, motion, _ in matched] + first_rest
        there = [(polygon, motion) for polygon, _, motion in matched] + second_rest
        self.assertTrue(all(well_written(polygon) for polygon, _ in here + there))
        self.assertEqual(common_areas([p for p, _ in first_rest], [p for p, _ in second_rest]), 0)
        for layers, parts in ((first, here), (second, there)):
            self.judge_parts(layers, parts)
            self.judge_places(layers, parts, sample)
        return matched, first_rest, second_rest

    def judge_parts(self, layers, parts):
        for motion in {motion for _, motion in layers + parts}:
            whole = [polygon for polygon, other in layers if other == motion]
            pieces = [polygon for polygon, other in parts if other == motion]
            self.assertEqual(area_of(pieces), area_of(whole))
            for piece in pieces:
                self.assertTrue(any(common_area(piece, polygon) == area_of([piece]) for polygon in whole))

    def judge_places(self, layers, parts, sample):
        places = [inside(polygon) for polygon, _ in layers + parts]
        places = [(x + Fraction(1, 10 ** 7 + k), y + Fraction(1, 10 ** 8 + 7 * k)) for k, (x, y) in enumerate(places)]
        for place in places[::max(1, len(places) // sample)] if sample else places:
            told = holding(parts, place)
            expected = holding(layers, place)
            if told is not None and expected is not None:
                self.assertEqual(told, expected)


class Match(MatchCase):
    def test_empty_lists(self):
        self.assertEqual(match([], []), ([], [], []))
        layers = [(SQUARE, M), (TRIANGLE, N)]
        for first, second in ((layers, []), ([], layers)):
            matched, first_rest, second_rest = self.judge(first, second)
            self.assertEqual((matched, sorted(first_rest), sorted(second_rest)),
                             ([], sorted(first), sorted(second)))

    def test_alike(self):
        self.assertEqual(match([(SQUARE, M)], [(SQUARE, N)]), ([(SQUARE, M, N)], [], []))
        self.assertEqual(match([(SQUARE, M)], [(SQUARE, M)]), ([(SQUARE, M, M)], [], []))
        matched, first_rest, second_rest = self.judge([(SQUARE, M)] * 3 + [(SQUARE, N)], [(SQUARE, O)] * 2)
        self.assertEqual((len(matched), len(first_rest), second_rest), (2, 2, []))
        self.assertEqual({motion for _, _, motion in matched}, {O})

    def test_apart(self):
        first, second = [(SQUARE, M)], [(rect(2, 0, 4, 2), N), (rect(2, 2, 3, 3), N), (rect(9, 9, 10, 10), O)]
        matched, first_rest, second_rest = self.judge(first, second)
        self.assertEqual((matched, first_rest, sorted(second_rest)), ([], first, sorted(second)))

    def test_one_within_the_other(self):
        small = rect(HALF, HALF, 1, 1)
        matched, first_rest, second_rest = self.judge([(SQUARE, M)], [(small, N)])
        self.assertEqual((matched, second_rest), ([(small, M, N)], []))
        self.assertEqual(area_of([p for p, _ in first_rest]), Fraction(15, 4))
        matched, first_rest, second_rest = self.judge([(small, M)], [(SQUARE, N)])
        self.assertEqual((matched, first_rest), ([(small, M, N)], []))

    def test_that_meet_in_part(self):
        matched, first_rest, second_rest = self.judge([(SQUARE, M)], [(rect(1, 1, 3, 3), N)])
        self.assertEqual(matched, [(rect(1, 1, 2, 2), M, N)])
        self.assertEqual([area_of([p for p, _ in row]) for row in (first_rest, second_rest)], [3, 3])

    def test_polygons_that_meet_within_a_list(self):
        first = [(SQUARE, M), (rect(1, 0, 3, 2), N), (rect(0, 1, 3, 3), O)]
        second = [(rect(0, 0, 3, 3), N), (TRIANGLE, M)]
        matched, first_rest, second_rest = self.judge(first, second)
        # As many as there can be: at each place the lesser number of layers of the two lists.
        self.assertEqual(area_of([p for p, _, _ in matched]), self.least_area(first, second))

    def least_area(self, first, second):
        """The area of the lesser numbers of layers over the fields of a fine board of triangles."""
        total = Fraction(0)
        for x in range(3):
            for y in range(3):
                for place, _ in (((x + Fraction(1, 3), y + Fraction(1, 4)), 0), ((x + Fraction(3, 4), y + Fraction(2, 3)), 1)):
                    total += Fraction(min(len(holding(first, place)), len(holding(second, place))), 2)
        return total

    def test_several_over_several(self):
        first = [(rect(0, 0, 4, 4), M)] * 2 + [(rect(1, 1, 3, 3), N)] * 2
        second = [(rect(0, 0, 4, 4), O), (rect(2, 0, 4, 4), M), (rect(0, 0, 2, 4), N), (rect(0, 2, 4, 4), O)]
        matched, first_rest, second_rest = self.judge(first, second)
        self.assertEqual(area_of([p for p, _, _ in matched]), 16 + 16 + 2)
        self.assertEqual(area_of([p for p, _ in first_rest]), 4 + 4 - 2)
        self.assertEqual(area_of([p for p, _ in second_rest]), 4 + 2)

    def test_one_motion_or_many(self):
        source = seeded(121)
        for motions in ([M], [M, N, O]):
            for many in (1, 3, 5):
                first = [(random_polygon(source), source.choice(motions)) for _ in range(many)]
                second = [(random_polygon(source), source.choice(motions)) for _ in range(many)]
                self.judge(first, second, 25)
                self.judge(first, first)

    def test_figures_that_are_cut(self):
        source = seeded(122)
        figure = random_figure(source, 4)
        layers = [(polygon, (0, (k, 0, 1))) for k, polygon in enumerate(figure)]
        finer = [(part, O) for polygon in figure for part in split(source, polygon, 3)]
        source.shuffle(finer)
        for first, second in ((layers, finer), (finer, layers)):
            matched, first_rest, second_rest = self.judge(first, second)
            self.assertEqual((first_rest, second_rest), ([], []))
            # What is cut once need not be cut again.
            self.assertEqual(len(matched), len(finer))

    def test_halves_over_wholes(self):
        first = [(SQUARE, (0, (k, 0, 1))) for k in range(6)]
        second = []
        for k in range(1, 7):
            x = Fraction(2 * k, 7)
            second += [(pts((0, 0), (x, 0), (2 - x, 2), (0, 2)), M), (pts((x, 0), (2, 0), (2, 2), (2 - x, 2)), N)]
        second = [(tuple(sorted_round(polygon)), motion) for polygon, motion in second]
        matched, first_rest, second_rest = self.judge(first, second)
        self.assertEqual((len(matched), first_rest, second_rest), (12, [], []))

    def test_stacks_of_many(self):
        source = seeded(123)
        first = [(random_polygon(source, 6, 8, 3), source.choice([M, N])) for _ in range(14)]
        second = [(random_polygon(source, 6, 8, 3), source.choice([M, O])) for _ in range(14)]
        matched, first_rest, second_rest = match(first, second)
        self.assertLess(len(matched), 4000)
        for layers, parts in ((first, [(p, m) for p, m, _ in matched] + first_rest),
                              (second, [(p, m) for p, _, m in matched] + second_rest)):
            for motion in (M, N, O):
                self.assertEqual(area_of([p for p, m in parts if m == motion]),
                                 area_of([p for p, m in layers if m == motion]))
            self.judge_places(layers, parts, 30)
        for _ in range(60):
            place = Fraction(source.randrange(-6007, 6007), 1009), Fraction(source.randrange(-6007, 6007), 1013)
            self.assertFalse(holding(first_rest, place) and holding(second_rest, place))

    def test_arguments_stay_and_answers_are_new(self):
        first, second = [(SQUARE, M), (TRIANGLE, N)], [(rect(1, 1, 3, 3), O), (SQUARE, O)]
        before = copy.deepcopy((first, second))
        for pair in ((first, second), (second, first), (first, []), ([], second), (first, first), ([], [])):
            answer, again = match(*pair), match(*pair)
            self.assertEqual(answer, again)
            for row in answer:
                self.assertTrue(row is not pair[0] and row is not pair[1])
                row.append("more")
            self.assertEqual(match(*pair), again)
            self.assertEqual((first, second), before)


def sorted_round(polygon):
    """The corners in their round, from the least one on."""
    least = min(range(len(polygon)), key=lambda k: xy(polygon[k]))
    return polygon[least:] + polygon[:least]


class Helpers(unittest.TestCase):
    def test_holding(self):
        self.assertEqual(holding([(SQUARE, M), (TRIANGLE, N), (SQUARE, M)], (HALF, HALF)), [M, M, N])
        self.assertIsNone(holding([(SQUARE, M)], (0, 1)))
        self.assertEqual(at(0, 1), (0, 1, 1))
