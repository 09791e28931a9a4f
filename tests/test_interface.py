"""Each name of the interface is defined in its own file, with the arguments that are listed."""

import doctest
import importlib
import inspect
import unittest
from pathlib import Path

FUNCTIONS = {
    "numbers": ["number(n, d)", "plus(a, b)", "minus(a, b)", "times(a, b)", "over(a, b)",
                "less(a, b)", "sign(a)"],
    "points": ["point(x, y, w)", "point_of(a, b)", "first_of(p)", "second_of(p)", "added(p, v)",
               "difference(p, q)", "comes_before(p, q)", "side(a, b, c)", "crossing(a, b, c, d)"],
    "polygons": ["is_polygon(value)", "polygon_of(points)", "area(polygon)", "place(polygon, p)"],
    "clipping": ["halves(polygon, a, b)", "meet(first, second)", "rest(first, second)"],
    "figures": ["figure_area(figure)", "meet_figures(first, second)", "rest_figures(first, second)",
                "unite_figures(first, second)", "cover_same(first, second)", "holds(figure, p)",
                "bounds(figure)", "is_figure(polygons)"],
    "loops": ["odd_figure(loops)"],
    "motions": ["follow(first, second)", "undo(motion)", "moved(motion, p)", "moved_polygon(motion, polygon)",
                "moved_figure(motion, figure)"],
    "groups": ["in_group(motion, group)", "lies_in(group, other)"],
    "papers": ["identity(figure)", "inverse(paper)", "composed(first, second)", "part(paper, figure)",
               "image(paper, figure)", "beside(first, second)"],
    "judging": ["find_fault(paper, first, second, group)"],
    "sums": ["edge_sums(figure)", "level_sums(figure)", "covers(figure, p, group)", "level_at(figure, y)"],
    "witnesses": ["is_witness(witness, first, second, group)"],
    "layers": ["match(first, second)"],
    "slabs": ["slabs(figure, heights)"],
    "gridpapers": ["fold(figure, group)", "grid_paper(first, second, group)"],
    "levelpapers": ["lean(w, h, s)", "level_paper(first, second)"],
    "freepapers": ["turn_over(a, b, c, d)", "fill(l, r, h)", "free_paper(first, second)",
                   "half_paper(first, second)"],
    "deciding": ["decide(first, second, group)", "equal_groups(first, second)", "least_groups(first, second)"],
    "along": ["along_equal(first, second, direction)", "along_paper(first, second, direction)"],
    "texts": ["write_figure(figure)", "write_paper(paper)", "read_figure(text)", "read_paper(text)"],
    "shortening": ["shortened(paper)"],
}
CLASSES = {"errors": ["CutError", "OnEdge", "BadText", "NoSuchFigure", "WrongPaper"], "book": ["Book"]}
METHODS = ["put(self, name, figure)", "figure(self, name)", "names(self)",
           "put_paper(self, first, second, group, paper)", "paper(self, first, second, group)",
           "alike(self, name, group)"]


class Interface(unittest.TestCase):
    def test_functions(self):
        for file, rows in FUNCTIONS.items():
            module = importlib.import_module("cutandlaid." + file)
            for row in rows:
                name = row.partition("(")[0]
                function = getattr(module, name)
                self.assertTrue(inspect.isfunction(function), row)
                self.assertEqual(function.__module__, module.__name__)
                self.assertEqual(name + str(inspect.signature(function)), row)

    def test_classes(self):
        for file, names in CLASSES.items():
            module = importlib.import_module("cutandlaid." + file)
            for name in names:
                self.assertTrue(inspect.isclass(getattr(module, name)), name)
                self.assertEqual(getattr(module, name).__module__, module.__name__)

    def test_methods(self):
        book = importlib.import_module("cutandlaid.book").Book
        for row in METHODS:
            name = row.partition("(")[0]
            self.assertTrue(inspect.isfunction(vars(book)[name]), row)
            self.assertEqual(name + str(inspect.signature(vars(book)[name])), row)
        self.assertEqual(str(inspect.signature(book)), "()")


class Readme(unittest.TestCase):
    def test_the_examples(self):
        readme = Path(__file__).resolve().parent.parent / "README.md"
        answer = doctest.testfile(str(readme), module_relative=False)
        self.assertEqual(answer.failed, 0)
        self.assertGreater(answer.attempted, 0)
