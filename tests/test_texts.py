import copy
import unittest

from cutandlaid.errors import BadText, CutError
from cutandlaid.texts import read_figure, read_paper, write_figure, write_paper
from tests.helpers import pts, random_figure, random_paper, rect, seeded

TRIANGLE = ((0, 0, 1), (1, 0, 1), (0, 1, 2))
POLYGON = "polygon 0 0 1 1 0 1 0 1 2\n"
PIECE = "piece 2 -3 0 1 0 0 1 1 0 1 0 1 2\n"
SQUARE = "polygon -1 -1 2 1 -1 2 1 1 2 -1 1 2\n"


class TextCase(unittest.TestCase):
    def refuse(self, read, text, line):
        with self.assertRaises(BadText) as caught:
            read(text)
        self.assertEqual(caught.exception.line, line)
        self.assertIsInstance(caught.exception, CutError)
        self.assertIsInstance(caught.exception, ValueError)

    def refuse_figure(self, bad):
        """A line, with its newline, is bad alone, behind good lines, before them, and before other bad ones."""
        for read, good in ((read_figure, POLYGON), (read_paper, PIECE)):
            text = bad if read == read_figure else bad.replace("polygon", "piece 2 -3 0 1", 1)
            self.refuse(read, text, 0)
            self.refuse(read, good + text, 1)
            self.refuse(read, text + good, 0)
            self.refuse(read, good + good + text + good + "nothing\n", 2)
            self.refuse(read, good + text + text, 1)
            self.refuse(read, "nothing\n" + text, 0)


class Write(TextCase):
    def test_by_hand(self):
        self.assertEqual(write_figure([]), "")
        self.assertEqual(write_paper([]), "")
        self.assertEqual(write_figure([TRIANGLE]), POLYGON)
        self.assertEqual(write_paper([(TRIANGLE, (2, (-3, 0, 1)))]), PIECE)
        self.assertEqual(write_figure([TRIANGLE, pts((-0.5, -0.5), (0.5, -0.5), (0.5, 0.5), (-0.5, 0.5))]),
                         POLYGON + SQUARE)
        self.assertEqual(write_paper([(TRIANGLE, (0, (0, 0, 1))), (TRIANGLE, (3, (7, -8, 9)))]),
                         "piece 0 0 0 1 0 0 1 1 0 1 0 1 2\npiece 3 7 -8 9 0 0 1 1 0 1 0 1 2\n")

    def test_polygons_that_meet(self):
        self.assertEqual(write_figure([TRIANGLE, TRIANGLE]), POLYGON + POLYGON)
        self.assertEqual(write_paper([(TRIANGLE, (2, (-3, 0, 1)))] * 2), PIECE + PIECE)

    def test_long_integers(self):
        for many in (63, 64, 65, 128, 5000):
            n = 10 ** many
            digits = "1" + "0" * many
            polygon = ((-n, 0, 1), (0, 0, 1), (n, n, 1))
            text = f"polygon -{digits} 0 1 0 0 1 {digits} {digits} 1\n"
            self.assertEqual(write_figure([polygon]), text)
            self.assertEqual(read_figure(text), [polygon])
            self.assertEqual(read_paper(write_paper([(polygon, (1, (n + 7, -n, 3)))])), [(polygon, (1, (n + 7, -n, 3)))])


class Read(TextCase):
    def test_by_hand(self):
        self.assertEqual(read_figure(""), [])
        self.assertEqual(read_paper(""), [])
        self.assertEqual(read_figure(POLYGON), [TRIANGLE])
        self.assertEqual(read_figure(POLYGON + SQUARE + POLYGON), [TRIANGLE, rect(-0.5, -0.5, 0.5, 0.5), TRIANGLE])
        self.assertEqual(read_paper(PIECE + PIECE), [(TRIANGLE, (2, (-3, 0, 1)))] * 2)

    def test_what_is_written_is_read_again(self):
        source = seeded(221)
        for group in ("level", "grid4", "free4"):
            for many in (1, 5):
                figure = random_figure(source, many)
                self.assertEqual(read_figure(write_figure(figure)), figure)
                paper = random_paper(source, figure, group)
                self.assertEqual(read_paper(write_paper(paper)), paper)
                self.assertEqual(write_paper(read_paper(write_paper(paper))), write_paper(paper))

    def test_words_of_forty_characters(self):
        n = 10 ** 38
        figure = [((-n, -n, 1), (n, -n - 7, 1), (n - 1, n, n - 2))]
        self.assertEqual(read_figure(write_figure(figure)), figure)


class BadLines(TextCase):
    def test_too_many_or_too_few_words(self):
        for bad in ("polygon 0 0 1 1 0 1 0 1 2 0\n", "polygon 0 0 1 1 0 1 0 1\n", "polygon 0 0 1 1 0 1 0\n",
                    "polygon 0 0 1 1 0 1\n", "polygon\n", "polygon 0\n", "polygon 0 0 1\n", "0 0 1 1 0 1 0 1 2\n"):
            self.refuse_figure(bad)
        for bad in ("piece\n", "piece 2\n", "piece 2 -3 0 1\n", "piece 2 -3 0\n", "piece 2 0 0 1 1 0 1 0 1 2\n",
                    "piece -3 0 1 0 0 1 1 0 1 0 1 2\n"):
            self.refuse(read_paper, bad, 0)
            self.refuse(read_paper, PIECE + bad + PIECE, 1)

    def test_other_words(self):
        for bad in ("Polygon 0 0 1 1 0 1 0 1 2\n", "polygons 0 0 1 1 0 1 0 1 2\n", "polygon 0 0 1 1 0 1 0 1 two\n",
                    "polygon 0 0 1 1 0 1 0 1 2.0\n", "polygon 0 0 1 1 0 1 0 1 1/2\n", "polygon 0 0 1 1 0 1 0 1 1_0\n",
                    "polygon, 0 0 1 1 0 1 0 1 2\n", "polygon 0 0 1 1 0 1 0 - 2\n", "polygon 0 0 1 1 0 1 0 --1 2\n",
                    "polygon 0 0 1 1 0 1 0 1 0x2\n", "polygon 0 0 1 1 0 1 0 1 2 polygon\n", "# 0\n"):
            self.refuse_figure(bad)

    def test_the_other_kind_of_line(self):
        self.refuse(read_figure, PIECE, 0)
        self.refuse(read_paper, POLYGON, 0)
        self.refuse(read_figure, POLYGON + PIECE, 1)
        self.refuse(read_paper, PIECE + PIECE + POLYGON, 2)

    def test_spaces(self):
        for bad in ("polygon  0 0 1 1 0 1 0 1 2\n", "polygon 0 0 1  1 0 1 0 1 2\n", " polygon 0 0 1 1 0 1 0 1 2\n",
                    "polygon 0 0 1 1 0 1 0 1 2 \n", "polygon 0 0 1 1 0 1 0 1  2\n", "  \n", " \n"):
            self.refuse_figure(bad)

    def test_empty_lines(self):
        self.refuse_figure("\n")
        self.refuse(read_figure, "\n\n", 0)
        self.refuse(read_figure, POLYGON + "\n", 1)
        self.refuse(read_paper, PIECE + "\n" + PIECE, 1)

    def test_integers_written_otherwise(self):
        for bad in ("polygon +0 0 1 1 0 1 0 1 2\n", "polygon 0 0 1 +1 0 1 0 1 2\n", "polygon -0 0 1 1 0 1 0 1 2\n",
                    "polygon 00 0 1 1 0 1 0 1 2\n", "polygon 0 0 01 1 0 1 0 1 2\n", "polygon -01 0 1 1 0 1 0 1 2\n",
                    "polygon 0 0 1 1 0 1 0 1 02\n", "polygon 0 0 1 1 0 1 0 1 1e1\n"):
            self.refuse_figure(bad)
        self.refuse(read_paper, "piece 02 -3 0 1 0 0 1 1 0 1 0 1 2\n", 0)
        self.refuse(read_paper, "piece +2 -3 0 1 0 0 1 1 0 1 0 1 2\n", 0)
        self.refuse(read_paper, "piece -0 -3 0 1 0 0 1 1 0 1 0 1 2\n", 0)
        self.refuse(read_paper, "piece 0 -3 -0 1 0 0 1 1 0 1 0 1 2\n", 0)

    def test_points_that_are_none(self):
        for bad in ("polygon 0 0 0 1 0 1 0 1 2\n", "polygon 0 0 1 1 0 1 0 1 0\n", "polygon 0 0 1 1 0 1 0 -1 -2\n",
                    "polygon 0 0 2 1 0 1 0 1 2\n", "polygon 0 0 1 2 0 2 0 1 2\n", "polygon 0 0 1 1 0 1 0 2 4\n",
                    "polygon 0 0 -1 1 0 1 0 1 2\n", "polygon 0 0 1 1 0 1 0 0 0\n"):
            self.refuse_figure(bad)

    def test_polygons_that_are_none(self):
        for bad in (
                # Corners turned on, the other way round, one left out of a triangle, one doubled.
                "polygon 1 0 1 0 1 2 0 0 1\n", "polygon 0 1 2 0 0 1 1 0 1\n", "polygon 0 0 1 0 1 2 1 0 1\n",
                "polygon 0 0 1 1 0 1\n", "polygon 0 0 1 1 0 1 1 0 1 0 1 2\n", "polygon 0 0 1 0 0 1 1 0 1 0 1 2\n",
                # A corner on an edge, all corners on a line, a corner that goes in, a round that goes twice.
                "polygon 0 0 1 1 0 2 1 0 1 0 1 2\n", "polygon 0 0 1 1 0 1 2 0 1\n",
                "polygon 0 0 1 3 0 1 1 1 1 0 3 1\n", "polygon 0 0 1 1 0 1 0 1 2 0 0 1 1 0 1 0 1 2\n",
                "polygon 0 0 1 4 3 1 0 3 1 3 0 1 2 5 1\n"):
            self.refuse_figure(bad)

    def test_motions_that_are_none(self):
        rest = " 0 0 1 1 0 1 0 1 2\n"
        for bad in ("4 0 0 1", "-1 0 0 1", "7 0 0 1", "0 0 0 2", "0 2 2 2", "1 1 1 0", "1 1 1 -1", "2 0 0 0", "3 6 3 9"):
            self.refuse(read_paper, "piece " + bad + rest, 0)
            self.refuse(read_paper, PIECE + "piece " + bad + rest + PIECE, 1)
        for k in range(4):
            self.assertEqual(read_paper(f"piece {k} 5 -4 3" + rest), [(TRIANGLE, (k, (5, -4, 3)))])

    def test_the_last_newline(self):
        self.refuse(read_figure, POLYGON[:-1], 0)
        self.refuse(read_figure, POLYGON + POLYGON[:-1], 1)
        self.refuse(read_paper, PIECE + PIECE + PIECE[:-1], 2)
        self.refuse(read_figure, "x", 0)
        self.refuse(read_figure, POLYGON + " ", 1)
        self.refuse(read_figure, "bad\n" + POLYGON[:-1], 0)

    def test_the_first_bad_line_counts(self):
        self.refuse(read_figure, POLYGON * 5 + "bad\n" + POLYGON + "worse\n", 5)
        self.refuse(read_figure, POLYGON * 199 + "bad\n", 199)


class Form(TextCase):
    def test_arguments_stay_and_answers_are_new(self):
        figure = [TRIANGLE, rect(0, 0, 1, 1)]
        paper = [(TRIANGLE, (2, (-3, 0, 1)))]
        before = copy.deepcopy((figure, paper))
        for write, read, value in ((write_figure, read_figure, figure), (write_paper, read_paper, paper)):
            text = write(value)
            self.assertEqual(write(value), text)
            answer = read(text)
            answer.append("more")
            self.assertEqual(read(text), answer[:-1])
            self.assertEqual((figure, paper), before)
