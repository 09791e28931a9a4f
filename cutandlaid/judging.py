"""Judging whether a list of pairs is a right paper for two figures and a group."""

from cutandlaid.borders import cover_alike
from cutandlaid.clipping import meets
from cutandlaid.figures import rest_of_polygon
from cutandlaid.frames import near
from cutandlaid.groups import in_group
from cutandlaid.papers import laid_pieces, pieces_of
from cutandlaid.polygons import is_polygon


def find_fault(paper, first, second, group):
    """The fault as a tuple of its kind and the index of the pair or None; None for a right paper."""
    # Only polygons can be cut and moved, so the pairs from the first other one on are set aside.
    sound = leading_polygons(paper)
    pieces, laid = pieces_of(paper[:sound]), laid_pieces(paper[:sound])
    whole, laid_whole = cover_alike(pieces, first), cover_alike(laid, second)
    # Where the pieces cover each place as often as the figure does, they neither meet nor lie outside.
    here = None if whole else Side(pieces, first)
    there = None if laid_whole else Side(laid, second)
    for k in range(sound):
        kind = fault_at(k, paper[k][1], group, here, there)
        if kind is not None:
            return (kind, k)
    if sound < len(paper):
        return ("polygon", sound)
    if not whole:
        return ("missing", None)
    if not laid_whole:
        return ("laid missing", None)
    return None


def leading_polygons(paper):
    """How many pairs stand before the first one whose piece is no polygon."""
    for k in range(len(paper)):
        if not is_polygon(paper[k][0]):
            return k
    return len(paper)


class Side:
    """The pieces, or the laid pieces, beside the figure that they are to cover."""

    def __init__(self, pieces, figure):
        self.pieces = pieces
        self.figure = figure
        self.neighbours = near(pieces, pieces)
        self.below = near(pieces, figure)

    def meets_earlier(self, k):
        """Whether piece k meets an earlier one."""
        piece = self.pieces[k]
        return any([meets(piece, self.pieces[j]) for j in self.neighbours[k] if j < k])

    def is_outside(self, k):
        """Whether piece k has an inner point that the figure does not hold."""
        return len(rest_of_polygon(self.pieces[k], [self.figure[j] for j in self.below[k]])) > 0


def fault_at(k, motion, group, here, there):
    """The kind of the fault of pair k, whose piece is a polygon, or None; no side tells of no fault."""
    if not in_group(motion, group):
        return "motion"
    if here is not None and here.meets_earlier(k):
        return "meets"
    if here is not None and here.is_outside(k):
        return "outside"
    if there is not None and there.meets_earlier(k):
        return "laid meets"
    if there is not None and there.is_outside(k):
        return "laid outside"
    return None
