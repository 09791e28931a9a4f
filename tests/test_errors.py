import unittest

from cutandlaid.errors import BadText, CutError, NoSuchFigure, OnEdge, WrongPaper


class Errors(unittest.TestCase):
    def test_base_classes(self):
        self.assertTrue(issubclass(CutError, ValueError))
        for kind in (OnEdge, BadText, NoSuchFigure, WrongPaper):
            self.assertEqual(kind.__bases__, (CutError,))

    def test_on_edge_is_made_without_arguments(self):
        error = OnEdge()
        self.assertIsInstance(error, CutError)
        with self.assertRaises(CutError):
            raise error

    def test_bad_text_keeps_the_line(self):
        for line in (0, 7):
            self.assertEqual(BadText(line).line, line)

    def test_no_such_figure_keeps_the_name(self):
        for name in ("", "square", "a {b} c"):
            self.assertEqual(NoSuchFigure(name).name, name)

    def test_wrong_paper_keeps_the_fault(self):
        for fault in (("polygon", 3), ("missing", None), ("laid meets", 0)):
            self.assertEqual(WrongPaper(fault).fault, fault)

    def test_they_can_be_raised_and_caught_as_value_errors(self):
        for error in (OnEdge(), BadText(1), NoSuchFigure("x"), WrongPaper(("motion", 2))):
            with self.assertRaises(ValueError) as caught:
                raise error
            self.assertIs(caught.exception, error)
            self.assertIsInstance(str(error), str)
