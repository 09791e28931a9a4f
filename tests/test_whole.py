"""What the document promises over the whole program: new answers, empty arguments, papers passed on."""

import copy
import importlib
import unittest
from fractions import Fraction

from cutandlaid.along import along_equal, along_paper
from cutandlaid.book import Book
from cutandlaid.deciding import decide, equal_groups, least_groups
from cutandlaid.errors import WrongPaper
from cutandlaid.figures import bounds, cover_same, is_figure, unite_figures
from cutandlaid.groups import GROUPS
from cutandlaid.judging import find_fault
from cutandlaid.layers import match
from cutandlaid.papers import beside, composed, identity, image, inverse, part
from cutandlaid.shortening import shortened
from cutandlaid.sums import covers, edge_sums, level_at, level_sums
from cutandlaid.texts import read_figure, read_paper, write_figure, write_paper
from cutandlaid.witnesses import is_witness
from tests.helpers import area_of, at, carried_polygon, pts, random_figure, random_paper, rect, seeded
from tests.test_interface import CLASSES, FUNCTIONS
from tests.test_levelpapers import laid

STAY = (0, (0, 0, 1))
SQUARE = rect(0, 0, 2, 2)
TRIANGLE = pts((0, 0), (3, 0), (0, 3))
FIGURE = [SQUARE, pts((5, 0), (8, 0), (5, 3))]
SECOND = [rect(1, 1, 4, 3), rect(7, 7, 8, 9)]
PAPER = [(rect(0, 0, 2, 1), STAY), (rect(0, 1, 2, 2), (0, at(2, -1)))]
LAYERS = [(SQUARE, STAY), (TRIANGLE, (2, (1, 1, 2)))]
TEXT = "polygon 0 0 1 1 0 1 0 1 2\n"
ONE, HALF = (1, 1), (1, 2)

# For each function of the interface whose answers have lists, or that is passed lists, some arguments.
CALLS = {
    "polygons": {"polygon_of": [([(0, 0, 1), (1, 0, 1), (0, 1, 1)],), ([(0, 0, 1)] * 3,)]},
    "clipping": {"rest": [(SQUARE, TRIANGLE), (SQUARE, rect(5, 5, 6, 6)), (SQUARE, SQUARE)]},
    "figures": {name: [(FIGURE, SECOND), (FIGURE, []), ([], FIGURE), ([], []), (FIGURE, FIGURE)]
                for name in ("meet_figures", "rest_figures", "unite_figures", "cover_same")},
    "loops": {"odd_figure": [([[(0, 0, 1), (1, 0, 1), (0, 1, 1)]],), ([],)]},
    "motions": {"moved_figure": [((1, at(2, 3)), FIGURE), (STAY, FIGURE), (STAY, [])]},
    "papers": {
        "identity": [(FIGURE,), ([],)], "inverse": [(PAPER,), ([],)],
        "composed": [(PAPER, inverse(PAPER)), ([], [])],
        "part": [(PAPER, FIGURE), (PAPER, []), ([], FIGURE), ([], [])],
        "image": [(PAPER, FIGURE), (PAPER, []), ([], FIGURE), ([], [])],
        "beside": [(PAPER, identity([rect(9, 9, 10, 10)])), (PAPER, []), ([], PAPER), ([], [])],
    },
    "judging": {"find_fault": [(PAPER, [SQUARE], [rect(0, 0, 4, 1)], "grid"), ([], [], [], "level"), ([], FIGURE, [], "grid"),
                               (PAPER, [], [], "free"), ([], [], FIGURE, "free4")]},
    "sums": {"edge_sums": [(FIGURE,), ([],)], "level_sums": [(FIGURE,), ([],)],
             "level_at": [(FIGURE, HALF), ([], HALF)], "covers": [(FIGURE, at(Fraction(1, 3), Fraction(1, 7)), "grid4"),
                                                                  ([], at(0, 0), "grid")]},
    "witnesses": {"is_witness": [(("area",), FIGURE, [], "level"), (("edges", (1, 0)), [], FIGURE, "free"),
                                 (("level", HALF), FIGURE, [], "level"), (("covers", at(0.25, 0.125)), [], [], "grid2")]},
    "layers": {"match": [(LAYERS, LAYERS[:1]), (LAYERS, []), ([], LAYERS), ([], [])]},
    "gridpapers": {"fold": [(FIGURE, "grid"), ([], "grid2"), (FIGURE, "grid4")],
                   "grid_paper": [(FIGURE, FIGURE[::-1], "grid4"), ([], [], "grid"), (FIGURE, [], "grid2")]},
    "slabs": {"slabs": [(FIGURE, [ONE, HALF, ONE]), (FIGURE, []), ([], [ONE]), ([], [])]},
    "levelpapers": {"lean": [(ONE, HALF, (-7, 3))], "level_paper": [(FIGURE, FIGURE[::-1]), ([], []), ([], FIGURE)]},
    "freepapers": {"turn_over": [(ONE, ONE, HALF, (2, 1))], "fill": [((-1, 1), HALF, ONE)],
                   "free_paper": [(FIGURE, FIGURE[::-1]), ([], []), ([], FIGURE)],
                   "half_paper": [(FIGURE, FIGURE[::-1]), ([], []), ([], FIGURE)]},
    "deciding": {"decide": [(FIGURE, FIGURE[::-1], "level"), ([], [], "free"), ([], FIGURE, "free4")],
                 "equal_groups": [(FIGURE, FIGURE[::-1]), ([], []), ([], FIGURE)],
                 "least_groups": [(FIGURE, FIGURE[::-1]), ([], []), ([], FIGURE)]},
    "along": {"along_equal": [(FIGURE, FIGURE[::-1], (2, 3)), ([], [], (0, 1)), ([], FIGURE, (1, 1))],
              "along_paper": [(FIGURE, FIGURE[::-1], (2, 3)), ([], [], (0, 1)), ([], FIGURE, (1, 1))]},
    "texts": {"write_figure": [(FIGURE,), ([],)], "write_paper": [(PAPER,), ([],)],
              "read_figure": [(TEXT,), ("",)], "read_paper": [(write_paper(PAPER),), ("",)]},
    "shortening": {"shortened": [(PAPER,), (identity([SQUARE]),), ([],)]},
}
for name in ("figure_area", "bounds", "is_figure"):
    CALLS["figures"][name] = [(FIGURE,), ([],)]
CALLS["figures"]["holds"] = [(FIGURE, (1, 1, 1)), ([], (0, 0, 1))]


def lists_in(value):
    """All lists within a value, with itself."""
    found = [value] if isinstance(value, list) else []
    if isinstance(value, (list, tuple)):
        for item in value:
            found.extend(lists_in(item))
    return found


class NewAnswers(unittest.TestCase):
    def calls(self):
        for file, functions in CALLS.items():
            module = importlib.import_module("cutandlaid." + file)
            for name, rows in functions.items():
                for arguments in rows:
                    yield getattr(module, name), arguments

    def test_all_functions_with_lists_are_called(self):
        # Those that are not called here neither take nor give lists.
        others = {"numbers", "points", "groups"}
        named = {(file, row.partition("(")[0]) for file, rows in FUNCTIONS.items() for row in rows if file not in others}
        called = {(file, name) for file, functions in CALLS.items() for name in functions}
        self.assertLessEqual(called, named)
        self.assertEqual(sorted(named - called), [
            ("clipping", "halves"), ("clipping", "meet"), ("motions", "follow"), ("motions", "moved"),
            ("motions", "moved_polygon"), ("motions", "undo"), ("polygons", "area"), ("polygons", "is_polygon"),
            ("polygons", "place")])
        self.assertIn("Book", CLASSES["book"])

    def test_arguments_stay_and_answers_are_new(self):
        for function, arguments in self.calls():
            before = copy.deepcopy(arguments)
            answer = function(*arguments)
            again = function(*arguments)
            self.assertEqual(arguments, before, function)
            self.assertEqual(answer, again, function)
            self.assertIs(type(answer), type(again))
            kept = copy.deepcopy(again)
            passed = [id(value) for value in lists_in(list(arguments))]
            for value in lists_in(answer):
                self.assertNotIn(id(value), passed, function)
                value.append("more")
            # What is done to an answer changes neither the arguments nor a later answer.
            self.assertEqual((arguments, again, function(*arguments)), (before, kept, kept), function)

    def test_whether_is_told_by_bools(self):
        for value in (cover_same(FIGURE, FIGURE), is_figure([]), along_equal([], [], (1, 0)),
                      is_witness(("area",), FIGURE, [], "grid"), is_figure([SQUARE, SQUARE])):
            self.assertIs(type(value), bool)


class Empty(unittest.TestCase):
    def test_empty_arguments(self):
        self.assertIsNone(bounds([]))
        self.assertEqual(unite_figures([], []), [])
        self.assertEqual((identity([]), inverse([]), composed([], []), part([], []), image([], []), beside([], [])),
                         ([],) * 6)
        self.assertEqual(match([], []), ([], [], []))
        self.assertEqual((edge_sums([]), level_sums([]), level_at([], HALF), covers([], at(0, 0), "grid")),
                         ([], [], ((0, 1), []), 0))
        self.assertEqual((write_figure([]), write_paper([]), read_figure(""), read_paper(""), shortened([])),
                         ("", "", [], [], []))
        for group in GROUPS:
            self.assertIsNone(find_fault([], [], [], group))
            self.assertEqual(find_fault([], FIGURE, [], group), ("missing", None))
            self.assertEqual(find_fault([], [], FIGURE, group), ("laid missing", None))
            self.assertEqual(decide([], [], group), ("paper", []))
        self.assertEqual(equal_groups([], []), list(GROUPS))
        self.assertEqual(least_groups([], []), ["level", "grid"])


class DecidedPapers(unittest.TestCase):
    def pairs_of_figures(self, source, group):
        """Figures that are equal by a group: pieces that were moved, and where it is known other forms."""
        figure = random_figure(source, 2)
        yield figure, laid(random_paper(source, figure, group, 1))
        if group in ("free2", "free4"):
            yield [pts((0, 0), (4, 0), (1, 3))], [rect(0, 0, 1, 6)]
        if group == "free":
            yield [pts((-1, 3), (0, 0), (2, 3)), rect(9, 9, 11, 10)], [pts((-1, 3), (0, 0), (2, 3)), rect(20, 0, 21, 2)]
        if group == "level":
            yield [pts((0, 0), (2, 0), (4, 2), (2, 2)), rect(9, 0, 10, 2)], [rect(0, 0, 3, 2)]
        if group.startswith("grid"):
            yield [rect(0, 0, 3, 1)], [rect(1, 1, 2, 4)]

    def test_passed_on(self):
        source = seeded(251)
        for group in GROUPS:
            for first, second in self.pairs_of_figures(source, group):
                word, paper = decide(first, second, group)
                self.assertEqual(word, "paper")
                back = decide(second, first, group)[1]
                for told, here, there in (
                        (paper, first, second), (shortened(paper), first, second), (inverse(paper), second, first),
                        (read_paper(write_paper(paper)), first, second), (composed(paper, back), first, first),
                        (shortened(inverse(shortened(paper))), second, first), (composed(back, paper), second, second),
                        (part(paper, first), first, second), (part(paper, first), first, image(paper, first)),
                        (composed(identity(first), paper), read_figure(write_figure(first)), second),
                        (composed(paper, inverse(paper)), first, first)):
                    self.assertIsNone(find_fault(told, here, there, group))
                self.assertTrue(cover_same(image(paper, first), second))

    def test_faulty(self):
        source = seeded(252)
        for group in GROUPS:
            for first, second in self.pairs_of_figures(source, group):
                paper = decide(first, second, group)[1]
                for k in sorted({0, len(paper) // 2, len(paper) - 1}):
                    self.judge_spoilt(paper, k, first, second, group)

    def judge_spoilt(self, paper, k, first, second, group):
        polygon, (turns, v) = paper[k]
        x, y, w = v
        before, behind = paper[:k], paper[k + 1:]
        self.assertEqual(find_fault(before + behind, first, second, group), ("missing", None))
        self.assertEqual(find_fault(paper + [paper[k]], first, second, group), ("meets", len(paper)))
        self.assertEqual(find_fault(before + [paper[k], paper[k]] + behind, first, second, group), ("meets", k + 1))
        for spoilt in (polygon[1:] + polygon[:1], polygon[::-1], polygon[:2], polygon + polygon[:1]):
            fault = find_fault(before + [(spoilt, (turns, v))] + behind, first, second, group)
            self.assertEqual(fault, ("polygon", k))
        off = carried_polygon((0, at(10 ** 7, 0)), polygon)
        self.assertEqual(find_fault(before + [(off, (turns, v))] + behind, first, second, group), ("outside", k))
        far = (turns, (x + 10 ** 7 * w, y, w))
        self.assertEqual(find_fault(before + [(polygon, far)] + behind, first, second, group), ("laid outside", k))
        if group in ("level", "grid", "free"):
            fault = find_fault(before + [(polygon, ((turns + 1) % 4, v))] + behind, first, second, group)
            self.assertEqual(fault, ("motion", k))

    def test_in_a_book(self):
        source = seeded(253)
        book = Book()
        figure = random_figure(source, 2)
        book.put("a", figure)
        for name, group in (("b", "level"), ("c", "grid2"), ("d", "free"), ("e", "free4")):
            book.put(name, laid(random_paper(source, figure, group, 1)))
            word, paper = decide(figure, book.figure(name), group)
            self.assertEqual(word, "paper")
            with self.assertRaises(WrongPaper):
                book.put_paper("a", name, group, paper[1:])
            book.put_paper("a", name, group, shortened(paper))
        self.assertEqual(book.alike("e", "free4"), list("abcde"))
        for group in GROUPS:
            for first in book.names():
                for second in book.alike(first, group):
                    paper = book.paper(first, second, group)
                    self.assertIsNone(find_fault(paper, book.figure(first), book.figure(second), group))
                    self.assertIn(group, equal_groups(book.figure(first), book.figure(second)))

    def test_along(self):
        source = seeded(254)
        figure = random_figure(source, 2)
        second = [carried_polygon((0, at(300 * k, 200 * k)), polygon) for k, polygon in enumerate(figure, 1)]
        paper = along_paper(figure, second, (3, 2))
        for told in (paper, shortened(paper), read_paper(write_paper(paper))):
            self.assertIsNone(find_fault(told, figure, second, "free"))
        self.assertEqual(area_of(polygon for polygon, _ in paper), area_of(figure))
