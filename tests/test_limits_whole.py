"""Point 28 for directions, texts, shorter papers and books: figures of the greatest size that may be passed."""

import unittest
from fractions import Fraction

from cutandlaid.along import along_equal, along_paper
from cutandlaid.book import Book
from cutandlaid.deciding import decide
from cutandlaid.errors import BadText
from cutandlaid.figures import meet_figures
from cutandlaid.judging import find_fault
from cutandlaid.papers import composed, identity, inverse
from cutandlaid.shortening import shortened
from cutandlaid.texts import read_figure, read_paper, write_figure, write_paper
from tests.helpers import area_of, at, carried_polygon, rect, seeded, split
from tests.test_levelpapers import laid
from tests.test_limits import FINE, FINEST, board
from tests.test_limits_deciding import great_figure
from tests.test_limits_papers import spread_out


class Along(unittest.TestCase):
    def test_sixteen_polygons(self):
        source = seeded(261)
        for direction in ((3, -2), (-1, 3), (0, 1), (1, 0)):
            figure = great_figure(source, 8, 10 ** 4, FINEST)
            pieces = [piece for polygon in figure for piece in split(source, polygon, 1)]
            second = []
            for k, piece in enumerate(pieces):
                far = 400 * (k + 1) + Fraction(source.randrange(FINE), FINE)
                second.append(carried_polygon((0, at(far * direction[0], far * direction[1])), piece))
            self.assertTrue(along_equal(figure, second, direction))
            paper = along_paper(figure, second, direction)
            self.assertIsNone(find_fault(paper, figure, second, "free"))
            self.assertTrue(all(x * direction[1] == y * direction[0] for _, (_, (x, y, _)) in paper))
            other = (-direction[1], direction[0])
            self.assertFalse(along_equal(figure, second, other))
            self.assertIsNone(along_paper(figure, second, other))


class Texts(unittest.TestCase):
    def test_many_polygons(self):
        source = seeded(262)
        figure = board(source, 14, FINEST, 0)
        text = write_figure(figure)
        self.assertEqual(text.count("\n"), 196)
        self.assertEqual(read_figure(text), figure)
        paper = spread_out(figure, (0, 1, 2, 3))
        self.assertEqual(read_paper(write_paper(paper)), paper)
        with self.assertRaises(BadText) as caught:
            read_figure(text + text.replace("polygon", "piece", 1))
        self.assertEqual(caught.exception.line, 196)

    def test_what_was_returned(self):
        # The numbers of a paper that was found may be longer than Python writes at once.
        source = seeded(263)
        figure = great_figure(source, 2, 10 ** 4, FINEST)
        wide = area_of(figure) / 90
        word, paper = decide(figure, [rect(0, 0, wide, 90)], "free2")
        self.assertEqual(word, "paper")
        self.assertEqual(read_paper(write_paper(paper)), paper)


class Shortened(unittest.TestCase):
    def test_many_pieces(self):
        source = seeded(264)
        first, second = board(source, 14, FINE, 0), board(source, 14, FINEST, 31)
        paper = spread_out(first, (0, 1, 2, 3))
        second_of_all = laid(paper)
        cut = composed(identity(meet_figures(first, second)), paper)
        short = shortened(cut)
        self.assertLessEqual(len(short), len(cut))
        self.assertEqual(area_of(polygon for polygon, _ in short), area_of(polygon for polygon, _ in cut))
        whole = shortened(composed(identity([part for p in first for part in split(source, p, 3)]), paper))
        self.assertEqual(len(whole), len(first))
        self.assertIsNone(find_fault(whole, first, second_of_all, "free4"))

    def test_a_board_of_squares(self):
        pieces = [rect(k, j, k + 1, j + 1) for k in range(20) for j in range(10)]
        seeded(265).shuffle(pieces)
        short = shortened(identity(pieces))
        self.assertLess(len(short), 60)
        self.assertIsNone(find_fault(short, [rect(0, 0, 20, 10)], pieces, "level"))


class Books(unittest.TestCase):
    def test_a_long_chain(self):
        source = seeded(266)
        book, figure = Book(), board(source, 8, FINE, 0)
        book.put("0", figure)
        for k in range(12):
            paper = spread_out(figure, (k % 4, 0, 2))
            figure = laid(paper)
            book.put(str(k + 1), figure)
            if k % 2:
                book.put_paper(str(k), str(k + 1), "free4", paper)
            else:
                book.put_paper(str(k + 1), str(k), "free4", inverse(paper))
        self.assertEqual(len(book.alike("5", "free4")), 13)
        self.assertEqual(book.alike("5", "free2"), ["5"])
        self.assertIsNone(find_fault(book.paper("0", "12", "free4"), book.figure("0"), book.figure("12"), "free4"))
        self.assertIsNone(find_fault(book.paper("11", "2", "free4"), book.figure("11"), book.figure("2"), "free4"))

    def test_many_names(self):
        book = Book()
        names = [f"{k:03d}" for k in range(200)]
        for k, name in enumerate(names):
            book.put(name, [rect(k, 0, k + 1, 1)])
        for k in range(199):
            book.put_paper(names[k], names[k + 1], "level", [(rect(k, 0, k + 1, 1), (0, (1, 0, 1)))])
        self.assertEqual(book.alike("100", "level"), names)
        self.assertEqual(book.paper("000", "199", "free"), [(rect(0, 0, 1, 1), (0, (199, 0, 1)))])
        book.put("100", [])
        self.assertEqual(book.alike("099", "level"), names[:100])
        self.assertIsNone(book.paper("000", "199", "free"))
