"""Layers: polygons, that may meet, each with a motion; two lists of them are matched."""

from cutandlaid.cells import match_in_cells
from cutandlaid.fitting import Fitting
from cutandlaid.matching import Matching, without_alike


def match(first, second):
    """The triple of the matched polygons with both motions, and of the rests of the two lists."""
    matching = Matching()
    here, there = without_alike(first, second, matching)
    fitting = Fitting(here, there, matching)
    fitting.run()
    match_in_cells(fitting.left(0), fitting.left(1), matching)
    return (matching.matched, matching.rests[0], matching.rests[1])
