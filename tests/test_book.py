import copy
import unittest
from fractions import Fraction

from cutandlaid.book import Book
from cutandlaid.errors import CutError, NoSuchFigure, WrongPaper
from cutandlaid.groups import GROUPS, lies_in
from cutandlaid.judging import find_fault
from cutandlaid.papers import identity, inverse
from tests.helpers import at, carried, inside, random_figure, random_paper, rect, seeded, where
from tests.test_levelpapers import laid

STAY = (0, (0, 0, 1))
SQUARE = [rect(0, 0, 2, 2)]
LONG = [rect(0, 0, 4, 1)]
PAPER = [(rect(0, 0, 2, 1), STAY), (rect(0, 1, 2, 2), (0, at(2, -1)))]
TURNED = [(rect(0, 0, 2, 1), STAY), (rect(0, 1, 2, 2), (2, at(4, 2)))]


def book_of(**figures):
    book = Book()
    for name, figure in figures.items():
        book.put(name, figure)
    return book


class BookCase(unittest.TestCase):
    def refuse(self, name, method, *arguments):
        with self.assertRaises(NoSuchFigure) as caught:
            method(*arguments)
        self.assertEqual(caught.exception.name, name)
        self.assertIsInstance(caught.exception, CutError)

    def chain(self, source, groups):
        """A book of figures a, b, c .. with a paper of each group from each one to the next one."""
        book, figure, papers = Book(), random_figure(source, 1), []
        book.put("a", figure)
        for k, group in enumerate(groups):
            paper = random_paper(source, figure, group, 1)
            figure = laid(paper)
            book.put("bcdefgh"[k], figure)
            book.put_paper("abcdefg"[k], "bcdefgh"[k], group, paper)
            papers.append(paper)
        return book, papers

    def judge_right(self, book, first, second, group):
        paper = book.paper(first, second, group)
        self.assertIs(type(paper), list)
        self.assertIsNone(find_fault(paper, book.figure(first), book.figure(second), group))
        self.assertEqual(book.paper(first, second, group), paper)
        return paper


class Figures(BookCase):
    def test_put_and_figure(self):
        book = Book()
        self.assertEqual(book.names(), [])
        self.assertIsNone(book.put("b", SQUARE))
        self.assertIsNone(book.put("a", []))
        self.assertIsNone(book.put("B", LONG + [rect(9, 9, 10, 10)]))
        self.assertIsNone(book.put("", LONG))
        self.assertEqual(book.names(), ["", "B", "a", "b"])
        self.assertEqual(book.figure("a"), [])
        self.assertEqual(book.figure("B"), LONG + [rect(9, 9, 10, 10)])
        book.put("b", LONG)
        self.assertEqual(book.figure("b"), LONG)
        self.assertEqual(book.names(), ["", "B", "a", "b"])

    def test_two_books(self):
        one, other = book_of(a=SQUARE), Book()
        self.assertEqual(other.names(), [])
        self.refuse("a", other.figure, "a")
        self.assertEqual(one.figure("a"), SQUARE)

    def test_a_figure_put_anew(self):
        book = book_of(a=SQUARE, b=LONG, c=LONG)
        book.put_paper("a", "b", "grid", PAPER)
        book.put_paper("b", "c", "level", identity(LONG))
        book.put_paper("c", "a", "grid", inverse(PAPER))
        book.put("b", LONG)
        self.assertEqual(book.alike("b", "free4"), ["b"])
        self.assertIsNone(book.paper("a", "b", "free4"))
        self.assertIsNone(book.paper("b", "c", "free4"))
        # The paper between the two others stays.
        self.assertEqual(book.alike("a", "grid"), ["a", "c"])
        self.assertEqual(self.judge_right(book, "c", "a", "grid"), inverse(PAPER))
        book.put("a", [])
        self.assertEqual(book.alike("c", "free4"), ["c"])
        # What is put under a new name gives nothing up.
        book.put_paper("b", "c", "level", identity(LONG))
        book.put("d", SQUARE)
        self.assertEqual(book.alike("c", "level"), ["b", "c"])


class Papers(BookCase):
    def test_one_paper(self):
        book = book_of(a=SQUARE, b=LONG)
        self.assertIsNone(book.paper("a", "b", "grid"))
        self.assertIsNone(book.put_paper("a", "b", "grid", PAPER))
        for group in GROUPS:
            if lies_in("grid", group):
                self.assertEqual(self.judge_right(book, "a", "b", group), PAPER)
                self.judge_right(book, "b", "a", group)
                self.assertEqual(book.alike("b", group), ["a", "b"])
            else:
                self.assertIsNone(book.paper("a", "b", group))
                self.assertIsNone(book.paper("b", "a", group))
                self.assertEqual(book.alike("a", group), ["a"])

    def test_a_name_and_itself(self):
        book = book_of(a=SQUARE, e=[])
        for group in GROUPS:
            self.assertEqual(book.paper("a", "a", group), identity(SQUARE))
            self.assertEqual(book.paper("e", "e", group), [])
            self.assertEqual(book.alike("a", group), ["a"])
        over = [(SQUARE[0], (2, at(2, 2)))]
        book.put_paper("a", "a", "grid2", over)
        self.judge_right(book, "a", "a", "free4")

    def test_empty_figures(self):
        book = book_of(a=[], b=[])
        book.put_paper("a", "b", "level", [])
        self.assertEqual(book.paper("b", "a", "free2"), [])
        self.assertEqual(book.alike("a", "level"), ["a", "b"])
        self.assertIsNone(book.paper("a", "b", "grid"))

    def test_joined_over_several(self):
        source = seeded(241)
        for group in GROUPS:
            book, papers = self.chain(source, [group] * 4)
            whole = self.judge_right(book, "a", "e", group)
            for polygon, motion in whole:
                place = inside(polygon)
                there = place
                for paper in papers:
                    there = where(paper, there)
                self.assertEqual(carried(motion, place), there)
            self.judge_right(book, "e", "a", group)
            self.judge_right(book, "d", "b", group)
            self.assertEqual(book.alike("c", group), list("abcde"))

    def test_papers_of_several_groups(self):
        book, _ = self.chain(seeded(242), ["level", "grid", "free", "grid4", "free2"])
        for group, alike in (("level", "ab"), ("grid", "a"), ("free", "abcd"), ("free2", "abcd"), ("free4", "abcdef")):
            self.assertEqual(book.alike("a", group), list(alike))
        for name, group, alike in (("c", "grid", "bc"), ("d", "grid4", "de"), ("f", "free2", "ef"), ("d", "free", "abcd")):
            self.assertEqual(book.alike(name, group), list(alike))
        for first in "abcdef":
            for second in "abcdef":
                for group in GROUPS:
                    if second in book.alike(first, group):
                        self.judge_right(book, first, second, group)
                    else:
                        self.assertIsNone(book.paper(first, second, group))

    def test_both_ways_around(self):
        # Papers to a name from two others: one of them counts backwards.
        source = seeded(243)
        figure = random_figure(source, 2)
        one, other = random_paper(source, figure, "free"), random_paper(source, figure, "free")
        book = book_of(m=figure, x=laid(one), y=laid(other))
        book.put_paper("x", "m", "free", inverse(one))
        book.put_paper("y", "m", "free", inverse(other))
        for first, second in ("xy", "yx", "mx", "ym"):
            self.judge_right(book, first, second, "free")
        self.assertEqual(book.alike("y", "free"), ["m", "x", "y"])
        # A ring has no end, and several papers for the same names do no harm.
        book.put_paper("x", "y", "free4", book.paper("x", "y", "free"))
        book.put_paper("x", "m", "free2", inverse(one))
        for first, second in ("xy", "yx", "mx", "xx"):
            self.judge_right(book, first, second, "free4")


class Wrong(BookCase):
    def test_wrong_papers(self):
        book = book_of(a=SQUARE, b=LONG)
        for group, paper, fault in (
                ("grid", PAPER[:1], ("missing", None)), ("grid", PAPER + PAPER[:1], ("meets", 2)),
                ("level", PAPER, ("motion", 1)), ("grid", TURNED, ("motion", 1)), ("grid", [], ("missing", None)),
                ("grid", PAPER[:1] + [(PAPER[1][0], STAY)], ("laid outside", 1)),
                ("grid2", [(rect(0, 0, 2, 1)[1:] + rect(0, 0, 2, 1)[:1], STAY), PAPER[1]], ("polygon", 0))):
            with self.assertRaises(WrongPaper) as caught:
                book.put_paper("a", "b", group, paper)
            self.assertEqual(caught.exception.fault, fault)
            self.assertIsInstance(caught.exception, CutError)
            # Nothing is changed.
            self.assertEqual(book.names(), ["a", "b"])
            self.assertEqual((book.figure("a"), book.figure("b")), (SQUARE, LONG))
            self.assertIsNone(book.paper("a", "b", "free4"))
        book.put_paper("a", "b", "grid2", TURNED)
        with self.assertRaises(WrongPaper):
            book.put_paper("a", "b", "grid2", PAPER[1:])
        self.assertEqual(book.paper("a", "b", "grid2"), TURNED)

    def test_wrong_way_around(self):
        book = book_of(a=SQUARE, b=LONG)
        with self.assertRaises(WrongPaper) as caught:
            book.put_paper("b", "a", "grid", PAPER)
        self.assertEqual(caught.exception.fault, find_fault(PAPER, LONG, SQUARE, "grid"))

    def test_unknown_names(self):
        book = book_of(a=SQUARE, b=LONG)
        book.put_paper("a", "b", "grid", PAPER)
        self.refuse("x", book.figure, "x")
        self.refuse("x", book.alike, "x", "grid")
        for method, rest in ((book.put_paper, ("grid", PAPER)), (book.put_paper, ("level", [])), (book.paper, ("grid",))):
            self.refuse("x", method, "x", "b", *rest)
            self.refuse("y", method, "a", "y", *rest)
            self.refuse("x", method, "x", "y", *rest)
            self.refuse("y", method, "y", "x", *rest)
            self.refuse("x", method, "x", "x", *rest)
        self.refuse("A", book.figure, "A")
        self.assertEqual(book.names(), ["a", "b"])
        self.assertEqual(book.paper("a", "b", "grid"), PAPER)
        self.assertEqual(book.alike("a", "grid"), ["a", "b"])


class Kept(BookCase):
    def test_lists_that_are_changed_behind(self):
        figure, long, paper = list(SQUARE), list(LONG), list(PAPER)
        before = copy.deepcopy((figure, long, paper))
        book = book_of(a=figure, b=long, c=long)
        book.put_paper("a", "b", "grid", paper)
        book.put_paper("c", "b", "level", identity(long))
        self.assertEqual((figure, long, paper), before)
        for value in (figure, long, paper):
            value.clear()
        for ask in (lambda: book.figure("a"), lambda: book.figure("b"), book.names, lambda: book.alike("a", "free"),
                    lambda: book.paper("a", "b", "grid"), lambda: book.paper("b", "a", "grid"),
                    lambda: book.paper("a", "a", "grid"), lambda: book.paper("a", "c", "free"),
                    lambda: book.paper("b", "c", "level")):
            answer = ask()
            again = ask()
            self.assertEqual(answer, again)
            self.assertIsNot(answer, again)
            answer.append("more")
            self.assertEqual(ask(), again)
        self.assertEqual((book.figure("a"), book.figure("c")), (SQUARE, LONG))
        self.assertEqual(book.paper("a", "b", "grid"), PAPER)
        self.judge_right(book, "a", "c", "free")

    def test_a_figure_told_by_other_polygons(self):
        # The papers are judged by what the figures cover, not by how they are told.
        book = book_of(a=[rect(0, 0, 1, 2), rect(1, 0, 2, 2)], b=[rect(0, 0, 3, 1), rect(3, 0, 4, 1)])
        book.put_paper("a", "b", "grid", PAPER)
        book.put("c", [rect(0, 0, 4, Fraction(1, 2)), rect(0, Fraction(1, 2), 4, 1)])
        book.put_paper("c", "b", "level", identity(LONG))
        self.judge_right(book, "a", "c", "free")
        self.judge_right(book, "c", "a", "free")
