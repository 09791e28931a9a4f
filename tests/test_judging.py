import copy
import unittest
from fractions import Fraction

from cutandlaid.judging import find_fault
from cutandlaid.papers import identity, inverse
from tests.helpers import (TURNS, area_of, at, carried_polygon, common_area, common_areas, is_motion_of,
                           is_right, pts, random_figure, random_paper, rect, seeded, split, well_written)

HALF = Fraction(1, 2)
STAY = (0, (0, 0, 1))
FIRST = [rect(0, 0, 2, 2)]
SECOND = [rect(10, 0, 14, 1)]
LOW = (rect(0, 0, 2, 1), (0, at(10, 0)))
HIGH = (rect(0, 1, 2, 2), (0, at(12, -1)))
PAPER = [LOW, HIGH]
# Both figures, told by other polygons.
FIRSTS = [FIRST, [rect(0, 0, 1, 2), rect(1, 0, 2, 2)], [pts((0, 0), (2, 0), (2, 2)), pts((0, 0), (2, 2), (0, 2))],
          [rect(0, HALF, 2, 2), rect(0, 0, 2, HALF)]]
SECONDS = [SECOND, [rect(10, 0, 13, 1), rect(13, 0, 14, 1)], [pts((10, 0), (14, 0), (14, 1)),
                                                             pts((10, 0), (14, 1), (10, 1))]]
# Tuples of points that are no polygons as point 5 writes them.
NO_POLYGONS = [
    (), pts((0, 0)), pts((0, 0), (1, 1)),
    pts((0, 0), (2, 1), (0, 1), (2, 0)), pts((0, 0), (0, 1), (2, 1), (2, 0)),
    pts((2, 0), (2, 1), (0, 1), (0, 0)), pts((0, 0), (1, 0), (2, 0), (2, 1), (0, 1)),
    pts((0, 0), (1, 0), (2, 0)), pts((0, 0), (2, 0), (2, 0), (2, 1), (0, 1)),
    pts((0, 0), (2, 0), (1, Fraction(1, 9)), (0, 1)), pts((0, 0), (2, 0), (2, 1), (0, 1)) * 2,
]


class RightPapers(unittest.TestCase):
    def test_no_fault(self):
        for first in FIRSTS:
            for second in SECONDS:
                for group in ("grid", "grid2", "grid4", "free", "free2", "free4"):
                    self.assertIsNone(find_fault(PAPER, first, second, group))
                    self.assertIsNone(find_fault(PAPER[::-1], first, second, group))
                    self.assertIsNone(find_fault(inverse(PAPER), second, first, group))

    def test_empty(self):
        for group in TURNS:
            self.assertIsNone(find_fault([], [], [], group))

    def test_a_piece_in_two_polygons_that_share_an_edge(self):
        first = [rect(0, 0, 1, 1), rect(1, 0, 2, 1)]
        self.assertIsNone(find_fault([(rect(0, 0, 2, 1), STAY)], first, first, "level"))
        four = [rect(x, y, x + 1, y + 1) for x in (0, 1) for y in (0, 1)]
        self.assertIsNone(find_fault([(pts((0, 1), (1, 0), (2, 1), (1, 2)), STAY)] + [
            (corner, STAY) for corner in (pts((0, 0), (1, 0), (0, 1)), pts((1, 0), (2, 0), (2, 1)),
                                          pts((0, 1), (1, 2), (0, 2)), pts((1, 2), (2, 1), (2, 2)))],
            four, four, "grid"))

    def test_many(self):
        source = seeded(81)
        for group in TURNS:
            figure = random_figure(source, 4)
            paper = random_paper(source, figure, group)
            other = [carried_polygon(motion, polygon) for polygon, motion in paper]
            finer = [part for polygon in figure for part in split(source, polygon, 1)]
            for first in (figure, finer, [polygon for polygon, _ in paper]):
                self.assertIsNone(find_fault(paper, first, other, group))
            self.assertTrue(is_right(paper, figure, other, group))


class EachKind(unittest.TestCase):
    def judge(self, paper, expected, first=None, second=None, group="grid4"):
        first, second = first or FIRST, second or SECOND
        self.assertEqual(find_fault(paper, first, second, group), expected)
        self.assertIs(type(find_fault(paper, first, second, group)), tuple)
        for one in FIRSTS if first is FIRST else [first]:
            for other in SECONDS if second is SECOND else [second]:
                self.assertEqual(find_fault(paper, one, other, group), expected)

    def test_polygon(self):
        for value in NO_POLYGONS:
            self.judge([(value, LOW[1]), HIGH], ("polygon", 0))
            self.judge([HIGH, (value, LOW[1])], ("polygon", 1))
            self.judge(PAPER + [(value, LOW[1])], ("polygon", 2))

    def test_motion(self):
        for group, motion in (("level", (0, at(10, 1))), ("level", (2, at(10, 0))), ("grid", (0, at(HALF, 0))),
                              ("grid", (2, at(10, 0))), ("grid2", (1, at(10, 0))), ("grid4", (1, at(0, HALF))),
                              ("free", (2, at(10, 0))), ("free2", (3, at(10, 0)))):
            paper = [(rect(0, 0, 2, 1), motion)]
            self.judge(paper, ("motion", 0), [rect(0, 0, 2, 1)], [carried_polygon(motion, rect(0, 0, 2, 1))], group)
            self.assertIsNone(find_fault(paper, [rect(0, 0, 2, 1)], [carried_polygon(motion, rect(0, 0, 2, 1))], "free4"))
        self.judge([LOW, (HIGH[0], (0, at(12, -HALF)))], ("motion", 1))

    def test_meets(self):
        self.judge([LOW, (rect(0, HALF, 2, Fraction(3, 2)), HIGH[1])], ("meets", 1))
        self.judge([LOW, HIGH, LOW], ("meets", 2))
        self.judge([LOW, LOW, HIGH], ("meets", 1))
        self.judge([LOW, (pts((0, 2), (1, HALF), (2, 2)), (0, at(12, -1)))], ("meets", 1))

    def test_outside(self):
        self.judge([LOW, (rect(0, 1, 3, 2), HIGH[1])], ("outside", 1))
        self.judge([(rect(-1, 0, 1, 1), LOW[1]), HIGH], ("outside", 0))
        self.judge([LOW, HIGH, (rect(7, 7, 8, 8), STAY)], ("outside", 2))
        self.judge([LOW, (pts((0, 1), (2, 1), (2, 2), (1, 2 + Fraction(1, 10 ** 9)), (0, 2)), HIGH[1])],
                   ("outside", 1))

    def test_laid_meets(self):
        self.judge([LOW, (HIGH[0], (0, at(11, -1)))], ("laid meets", 1))
        self.judge([LOW, (rect(0, 1, 2, Fraction(3, 2)), (0, at(10, -1))),
                    (rect(0, Fraction(3, 2), 2, 2), (0, at(12, -1)))], ("laid meets", 1))

    def test_laid_outside(self):
        self.judge([LOW, (HIGH[0], (0, at(13, -1)))], ("laid outside", 1))
        self.judge([(LOW[0], STAY), HIGH], ("laid outside", 0))
        self.judge([LOW, (HIGH[0], (1, at(14, 0)))], ("laid outside", 1))

    def test_missing(self):
        self.judge([], ("missing", None))
        self.judge([LOW], ("missing", None))
        self.judge([HIGH], ("missing", None))
        self.judge([LOW, (rect(0, 1, 2, 2 - Fraction(1, 10 ** 9)), HIGH[1])], ("missing", None))
        self.judge([], ("missing", None), FIRST, [rect(0, 0, 1, 1)])

    def test_missing_comes_before_laid_missing(self):
        self.judge([LOW], ("missing", None), FIRST, SECOND + [rect(20, 20, 21, 21)])
        self.judge([LOW], ("missing", None), FIRST, [rect(10, 0, 12, 1)])

    def test_laid_missing(self):
        self.judge(PAPER, ("laid missing", None), FIRST, SECOND + [rect(20, 20, 21, 21)])
        self.judge(PAPER, ("laid missing", None), FIRST, [rect(10, 0, 15, 1)])
        self.assertEqual(find_fault([], [], SECOND, "free"), ("laid missing", None))

    def test_a_gap_between_two_polygons(self):
        gap = Fraction(1, 10 ** 9)
        figure = [rect(0, 0, 1, 1), rect(1 + gap, 0, 2, 1)]
        whole = [(rect(0, 0, 2, 1), STAY)]
        self.assertEqual(find_fault(whole, figure, [rect(0, 0, 2, 1)], "level"), ("outside", 0))
        self.assertEqual(find_fault(whole, [rect(0, 0, 2, 1)], figure, "level"), ("laid outside", 0))
        # A hole of a single small triangle between four polygons.
        ring = [rect(0, 0, 3, 1), rect(0, 2, 3, 3), rect(0, 1, 1, 2), rect(2, 1, 3, 2),
                pts((1, 1), (2, 1), (2, 2)), pts((1, 1 + gap), (2, 2), (1, 2))]
        self.assertEqual(find_fault([(rect(0, 0, 3, 3), STAY)], ring, ring, "level"), ("outside", 0))


class SeveralFaults(unittest.TestCase):
    def test_the_kind_that_stands_first(self):
        no_polygon, broken = NO_POLYGONS[3], (0, at(HALF, 0))
        outside, far = rect(5, 5, 7, 6), (0, at(100, 0))
        over_both = rect(0, HALF, 3, 1)
        for group in ("grid", "grid2", "grid4"):
            for pair, kind in (((no_polygon, broken), "polygon"), ((outside, broken), "motion"),
                               ((rect(0, HALF, 2, 1), broken), "motion"), ((over_both, broken), "motion"),
                               ((over_both, far), "meets"), ((over_both, LOW[1]), "meets"),
                               ((outside, far), "outside"), ((outside, (0, at(5, -5))), "outside"),
                               ((rect(0, 1, 2, 2), (0, at(11, -2))), "laid outside"),
                               ((rect(0, 1, 2, 2), (0, at(9, -1))), "laid meets")):
                self.assertEqual(find_fault([LOW, pair], FIRST, SECOND, group), (kind, 1))

    def test_the_first_pair(self):
        bad = {"polygon": (NO_POLYGONS[4], LOW[1]), "motion": (rect(1, 1, 2, 2), (0, at(HALF, 0))),
               "outside": (rect(5, 5, 7, 6), LOW[1]), "laid outside": (rect(1, 1, 2, 2), (0, at(100, 0)))}
        for kind, pair in bad.items():
            for other in bad.values():
                self.assertEqual(find_fault([LOW, pair, other], FIRST, SECOND, "grid"), (kind, 1))
                self.assertEqual(find_fault([pair, LOW, other], FIRST, SECOND, "grid"), (kind, 0))

    def test_pieces_that_meet_only_later_ones(self):
        # The first two pieces are as they should be; only the third one meets an earlier piece.
        paper = [LOW, (rect(0, 1, 1, 2), (0, at(12, -1))), (rect(0, 1, 2, 2), (0, at(12, -1)))]
        self.assertEqual(find_fault(paper, FIRST, SECOND, "grid"), ("meets", 2))
        self.assertEqual(find_fault(paper[::-1], FIRST, SECOND, "grid"), ("meets", 1))

    def test_a_laid_piece_that_meets_counts_behind_a_piece_outside(self):
        paper = [LOW, (rect(5, 5, 7, 6), (0, at(5, -5)))]
        self.assertEqual(find_fault(paper, FIRST, SECOND, "grid"), ("outside", 1))
        self.assertEqual(find_fault(paper, FIRST + [rect(5, 5, 7, 6)], SECOND, "grid"), ("laid meets", 1))

    def test_as_much_too_much_as_too_little(self):
        # One pair stands twice and another one is left out: areas alone do not tell.
        self.assertEqual(find_fault([LOW, LOW], FIRST, SECOND, "grid"), ("meets", 1))
        self.assertEqual(find_fault([LOW, (rect(0, 3, 2, 4), (0, at(12, -3)))], FIRST, SECOND, "grid"), ("outside", 1))


class SpoiltPapers(unittest.TestCase):
    def expected(self, paper, first, second, group):
        """The fault by trying each pair by itself, with the shortest way to see each kind."""
        for k in range(len(paper)):
            for kind in ("polygon", "motion", "meets", "outside", "laid meets", "laid outside"):
                if has(kind, paper, k, first, second, group):
                    return kind, k
        if is_right(paper, first, second, group):
            return None
        pieces = [polygon for polygon, _ in paper]
        same = is_right(identity(pieces), first, first, group) if first else not pieces
        return ("laid missing", None) if same else ("missing", None)

    def test_spoilt_pairs(self):
        source = seeded(82)
        for group in TURNS:
            figure = random_figure(source, 2)
            paper = random_paper(source, figure, group, 1)
            other = [carried_polygon(motion, polygon) for polygon, motion in paper]
            for spoilt in spoilt_papers(source, paper):
                self.assertEqual(find_fault(spoilt, figure, other, group),
                                 self.expected(spoilt, figure, other, group))

    def test_arguments_stay_and_answers_are_alike(self):
        papers = [PAPER, [LOW], [LOW, LOW], [(NO_POLYGONS[5], STAY)]]
        before = copy.deepcopy((papers, FIRST, SECOND))
        for paper in papers:
            answer = find_fault(paper, FIRST, SECOND, "grid")
            self.assertEqual(find_fault(paper, FIRST, SECOND, "grid"), answer)
        self.assertEqual((papers, FIRST, SECOND), before)


def has(kind, paper, k, first, second, group):
    polygon, motion = paper[k]
    if kind == "polygon":
        return not well_written(polygon)
    if kind == "motion":
        return not is_motion_of(motion, group)
    there, figure = (polygon, first) if not kind.startswith("laid") else (carried_polygon(motion, polygon), second)
    if kind.endswith("outside"):
        return common_areas([there], figure) < area_of([there])
    earlier = [carried_polygon(m, p) if kind.startswith("laid") else p for p, m in paper[:k]]
    return any(common_area(there, one) > 0 for one in earlier)


def spoilt_papers(source, paper):
    """The paper with pairs left out, doubled, put into another order, and changed in several ways."""
    for k in range(len(paper)):
        polygon, (turns, v) = paper[k]
        yield paper[:k] + paper[k + 1:]
        yield paper[:k] + [paper[k]] + paper[k:]
        yield paper + [paper[k]]
        yield paper[:k] + [(polygon[1:] + polygon[:1], (turns, v))] + paper[k + 1:]
        yield paper[:k] + [(polygon[::-1], (turns, v))] + paper[k + 1:]
        yield paper[:k] + [(polygon[:2], (turns, v))] + paper[k + 1:]
        yield paper[:k] + [(polygon, ((turns + 1) % 4, v))] + paper[k + 1:]
        yield paper[:k] + [(polygon, (turns, (v[0] + v[2], v[1], v[2])))] + paper[k + 1:]
        yield paper[:k] + [(polygon, (turns, (v[0], v[1] + 5 * v[2], v[2])))] + paper[k + 1:]
        yield paper[:k] + [(carried_polygon((0, at(Fraction(1, 7), 0)), polygon), (turns, v))] + paper[k + 1:]
        other = source.randrange(len(paper))
        yield paper[:k] + [(polygon, paper[other][1])] + paper[k + 1:]
        yield paper[:k] + [(paper[other][0], (turns, v))] + paper[k + 1:]
    shuffled = list(paper)
    source.shuffle(shuffled)
    yield shuffled
    yield paper + paper
