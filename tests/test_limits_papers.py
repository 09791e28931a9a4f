"""Point 28 for papers: as many pieces as may be passed, with twelve corners and fine coordinates."""

import unittest
from fractions import Fraction

from cutandlaid.figures import meet_figures, rest_figures
from cutandlaid.judging import find_fault
from cutandlaid.motions import moved_figure
from cutandlaid.papers import beside, composed, identity, image, inverse, part
from tests.helpers import area_of, at, carried, common_areas, inside, seeded, where
from tests.test_limits import FINE, FINEST, board


def spread_out(figure, group_turns):
    """A paper that lays each polygon of a board, after a turn, far from all the other ones."""
    paper = []
    for k, polygon in enumerate(figure):
        turns = group_turns[k % len(group_turns)]
        paper.append((polygon, (turns, at(k * 2000 + Fraction(1, FINEST), Fraction(k, FINE)))))
    return paper


class ManyPieces(unittest.TestCase):
    @classmethod
    def setUpClass(cls):
        source = seeded(131)
        cls.first, cls.second = board(source, 14, FINE, 0), board(source, 14, FINEST, 31)
        # The first figure, told by other polygons.
        cls.parts = meet_figures(cls.first, cls.second) + rest_figures(cls.first, cls.second)
        cls.paper = spread_out(cls.first, (0, 1, 2, 3))
        cls.laid = [polygon for polygon, motion in inverse(cls.paper)]

    def test_right_papers(self):
        for figure in (self.first, self.parts):
            self.assertIsNone(find_fault(self.paper, figure, self.laid, "free4"))
            self.assertIsNone(find_fault(inverse(self.paper), self.laid, figure, "free4"))
            self.assertIsNone(find_fault(identity(self.parts), figure, self.first, "level"))
        self.assertEqual(find_fault(self.paper, self.parts, self.laid, "free2"), ("motion", 1))

    def test_composed(self):
        cut = composed(identity(self.parts), self.paper)
        self.assertGreater(len(cut), 3000)
        self.assertIsNone(find_fault(cut, self.first, self.laid, "free4"))
        there_and_back = composed(inverse(cut), self.paper)
        self.assertIsNone(find_fault(there_and_back, self.laid, self.laid, "free4"))
        self.assertEqual({motion for _, motion in there_and_back}, {(0, (0, 0, 1))})
        turn = (1, at(Fraction(1, 3), Fraction(-1, FINE)))
        more = [(polygon, turn) for polygon in self.laid]
        self.assertIsNone(find_fault(composed(cut, more), self.parts, moved_figure(turn, self.laid), "free4"))

    def test_part_and_image(self):
        within = part(self.paper, self.second)
        shared = meet_figures(self.first, self.second)
        self.assertEqual(area_of([polygon for polygon, _ in within]), area_of(shared))
        self.assertIsNone(find_fault(within, shared, image(self.paper, self.second), "free4"))
        for polygon, motion in within[::40]:
            self.assertEqual(carried(motion, inside(polygon)), where(self.paper, inside(polygon)))
        both = beside(within, part(self.paper, rest_figures(self.first, self.second)))
        self.assertIsNone(find_fault(both, self.parts, self.laid, "free4"))

    def test_spoilt_pairs(self):
        for k in (0, 97, 195):
            polygon, (turns, v) = self.paper[k]
            x, y, w = v
            # A step of the least size that can be told here.
            step = (turns, at(Fraction(x, w) + Fraction(1, 10 ** 12), Fraction(y, w)))
            for pair, kind in (((polygon[1:] + polygon[:1], (turns, v)), "polygon"),
                               ((polygon, step), "laid outside"), ((polygon, ((turns + 2) % 4, v)), "laid outside")):
                spoilt = self.paper[:k] + [pair] + self.paper[k + 1:]
                self.assertEqual(find_fault(spoilt, self.parts, self.laid, "free4"), (kind, k))

    def test_pairs_left_out_and_doubled(self):
        for k in (0, 97, 195):
            less = self.paper[:k] + self.paper[k + 1:]
            self.assertEqual(find_fault(less, self.parts, self.laid, "free4"), ("missing", None))
            self.assertEqual(find_fault(less, less_figure(self.first, k), self.laid, "free4"), ("laid missing", None))
            self.assertEqual(find_fault(self.paper + [self.paper[k]], self.parts, self.laid, "free4"), ("meets", 196))
            doubled = self.paper[:k] + [self.paper[k]] + self.paper[k:]
            self.assertEqual(find_fault(doubled, self.parts, self.laid, "free4"), ("meets", k + 1))
        self.assertEqual(find_fault(self.paper + self.paper, self.first, self.laid, "free4"), ("meets", 196))

    def test_papers_with_faults_are_cut_as_they_are(self):
        # The parts of a paper of which pairs are left out.
        less = self.paper[::2]
        within = part(less, self.second)
        self.assertEqual(area_of([p for p, _ in within]), common_areas([p for p, _ in less], self.second))


def less_figure(figure, k):
    return figure[:k] + figure[k + 1:]
