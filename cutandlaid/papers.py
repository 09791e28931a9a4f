"""Papers: lists of pairs of a piece, which is a polygon, and the motion by which it is laid."""

from cutandlaid.clipping import meet
from cutandlaid.frames import near
from cutandlaid.motions import STAY, follow, moved_polygon, undo


def pieces_of(paper):
    """The polygons of the pairs, in order."""
    return [polygon for polygon, _ in paper]


def laid_pieces(paper):
    """The polygons of the pairs moved by their motions, in order."""
    return [moved_polygon(motion, polygon) for polygon, motion in paper]


def identity(figure):
    """The paper that leaves each polygon of a figure where it is."""
    return [(polygon, STAY) for polygon in figure]


def inverse(paper):
    """The paper that leads the laid pieces back."""
    return [(moved_polygon(motion, polygon), undo(motion)) for polygon, motion in paper]


def composed(first, second):
    """The paper that moves each point as the first paper and then the second one do."""
    laid, pieces = laid_pieces(first), pieces_of(second)
    paper = []
    for k, others in enumerate(near(laid, pieces)):
        motion = first[k][1]
        back = undo(motion)
        for j in others:
            common = meet(laid[k], pieces[j])
            if common is not None:
                paper.append((moved_polygon(back, common), follow(motion, second[j][1])))
    return paper


def part(paper, figure):
    """The part of a paper within a figure."""
    within = []
    for k, others in enumerate(near(pieces_of(paper), figure)):
        polygon, motion = paper[k]
        for j in others:
            common = meet(polygon, figure[j])
            if common is not None:
                within.append((common, motion))
    return within


def image(paper, figure):
    """A figure that covers to where a paper brings what its pieces have in common with a figure."""
    return laid_pieces(part(paper, figure))


def beside(first, second):
    """The paper that has the pairs of both papers."""
    return first + second
