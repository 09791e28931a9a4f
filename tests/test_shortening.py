import copy
import unittest
from fractions import Fraction

from cutandlaid.judging import find_fault
from cutandlaid.papers import composed, identity, inverse
from cutandlaid.shortening import shortened
from tests.helpers import (area_of, at, common_areas, hull, is_right_figure, pts, random_figure, random_paper, rect,
                           seeded, split, spread, well_written, xy)

STAY = (0, (0, 0, 1))
AWAY = (1, (1, 2, 3))


def can_be_joined(first, second):
    """Whether some polygon covers the same as two polygons that do not meet: then it is their hull."""
    whole = hull([xy(p) for p in first + second])
    return spread(whole) == area_of([first]) + area_of([second])


class ShorteningCase(unittest.TestCase):
    def judge(self, paper):
        """All that point 26 tells of a shortened paper."""
        short = shortened(paper)
        self.assertIs(type(short), list)
        self.assertLessEqual(len(short), len(paper))
        self.assertTrue(all(type(pair) is tuple and well_written(pair[0]) for pair in short))
        self.assertTrue(is_right_figure([polygon for polygon, _ in short]))
        motions = {motion for _, motion in paper}
        self.assertEqual({motion for _, motion in short}, motions)
        for motion in motions:
            before = [polygon for polygon, other in paper if other == motion]
            after = [polygon for polygon, other in short if other == motion]
            self.assertEqual(area_of(after), area_of(before))
            self.assertEqual(common_areas(after, before), area_of(before))
            for k, polygon in enumerate(after):
                self.assertFalse(any(can_be_joined(polygon, other) for other in after[:k]))
        return short


class Shortened(ShorteningCase):
    def test_empty(self):
        self.assertEqual(shortened([]), [])

    def test_by_hand(self):
        pieces = [rect(0, 0, 1, 1), rect(1, 0, 2, 1)]
        self.assertEqual(self.judge(identity(pieces)), [(rect(0, 0, 2, 1), STAY)])
        self.assertEqual(self.judge([(pieces[0], STAY), (pieces[1], AWAY)]), [(pieces[0], STAY), (pieces[1], AWAY)])
        self.assertEqual(self.judge([(rect(0, 0, 1, 1), AWAY)]), [(rect(0, 0, 1, 1), AWAY)])

    def test_what_cannot_be_joined(self):
        for pieces in ([rect(0, 0, 1, 1), rect(1, 1, 2, 2)], [rect(0, 0, 1, 1), rect(2, 0, 3, 1)],
                       [rect(0, 0, 1, 1), rect(1, 0, 2, 2)], [rect(0, 0, 2, 1), rect(0, 1, 1, 2)],
                       # The edge is the same, but a corner would go in at one end of it, or at both.
                       [rect(0, 0, 2, 2), pts((2, 0), (3, 1), (2, 2)), pts((-1, 3), (0, 2), (2, 2))],
                       [pts((0, 0), (3, -1), (1, 0)), pts((0, 0), (1, 0), (3, 1))]):
            self.assertEqual(len(self.judge(identity(pieces))),
                             len(pieces) - (1 if pieces[0] == rect(0, 0, 2, 2) else 0))

    def test_joined_at_corners_that_stay_or_vanish(self):
        # The joined polygon keeps both ends of the edge as corners, one of them, or none.
        for pieces, many in (([pts((0, 0), (1, -1), (1, 1)), pts((1, -1), (2, 0), (1, 1))], 4),
                             ([pts((0, 0), (1, 0), (1, 1)), pts((1, 0), (2, 0), (1, 1))], 3),
                             ([rect(0, 0, 1, 1), rect(1, 0, 2, 1)], 4), ([rect(0, 0, 1, 1), rect(0, 1, 1, 2)], 4)):
            short = self.judge(identity(pieces))
            self.assertEqual(([len(polygon) for polygon, _ in short]), [many])

    def test_a_join_that_makes_another_one_possible(self):
        # No rectangle can be joined with the square before both squares are.
        pieces = [rect(0, 0, 1, 1), rect(0, 1, 2, 2), rect(1, 0, 2, 1)]
        self.assertEqual(self.judge(identity(pieces)), [(rect(0, 0, 2, 2), STAY)])
        rows = [rect(k, j, k + 1, j + 1) for k in range(5) for j in range(4)]
        self.assertEqual(len(self.judge(identity(rows))), 1)
        seeded(230).shuffle(rows)
        self.judge(identity(rows))
        # Around a small square nothing can be joined.
        wheel = [rect(0, 0, 2, 1), rect(2, 0, 3, 2), rect(1, 2, 3, 3), rect(0, 1, 1, 3), rect(1, 1, 2, 2)]
        self.assertEqual(len(self.judge(identity(wheel))), 5)

    def test_cut_by_many_lines(self):
        source = seeded(231)
        for cuts in (1, 3, 6):
            figure = random_figure(source, 2)
            pieces = [piece for polygon in figure for piece in split(source, polygon, cuts)]
            source.shuffle(pieces)
            short = self.judge(identity(pieces))
            self.assertIsNone(find_fault(short, figure, figure, "level"))

    def test_several_motions(self):
        source = seeded(232)
        for _ in range(5):
            figure = random_figure(source, 3)
            pieces = [piece for polygon in figure for piece in split(source, polygon, 4)]
            motions = [STAY, AWAY, (2, at(5, Fraction(1, 3)))]
            self.judge([(piece, source.choice(motions)) for piece in pieces])

    def test_right_papers_stay_right(self):
        source = seeded(233)
        for group in ("grid2", "free4"):
            figure = random_figure(source, 2)
            paper = random_paper(source, figure, group, 1)
            cut = composed(identity([part for p in figure for part in split(source, p, 3)]), paper)
            second = [polygon for polygon, _ in inverse(paper)]
            short = self.judge(cut)
            self.assertLess(len(short), len(cut))
            self.assertIsNone(find_fault(short, figure, second, group))
            # What is laid is joined as well.
            self.assertIsNone(find_fault(shortened(inverse(cut)), second, figure, group))
            self.judge(short)
            self.assertEqual(len(shortened(short)), len(short))

    def test_arguments_stay_and_answers_are_new(self):
        paper = identity([rect(0, 0, 1, 1), rect(1, 0, 2, 1), rect(5, 5, 6, 6)])
        before = copy.deepcopy(paper)
        for value in (paper, [], paper[:1]):
            answer = shortened(value)
            again = shortened(value)
            self.assertEqual(answer, again)
            answer.append("more")
            self.assertEqual(shortened(value), again)
            self.assertEqual(paper, before)
