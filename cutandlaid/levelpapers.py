"""Papers for "level": figures are cut along level lines, and matched in each strip by level slides."""

from cutandlaid.assembling import matched_whole
from cutandlaid.bars import leaned
from cutandlaid.numbers import ascending, least
from cutandlaid.papers import inverse
from cutandlaid.points import second_of
from cutandlaid.shortening import shortened
from cutandlaid.slabs import slabs
from cutandlaid.strips import add_strip
from cutandlaid.sums import level_sums
from cutandlaid.trapezoids import rectangle_of

# How many pieces a paper may have before another way is tried that may need fewer.
MOST = (4000, 40000)


def lean(w, h, s):
    """A right paper for "level" from the rectangle of two lengths to the one that leans by s."""
    return inverse(leaned(rectangle_of(w, h), s).layers)


def level_paper(first, second):
    """A right paper for "level", or None if there is none."""
    if level_sums(first) != level_sums(second):
        return None
    paper, first_rest, second_rest = matched_whole(first, second, "level")
    # Polygons that need not be cut may yet be wide enough to be cut for the sake of narrow ones.
    for most in MOST:
        more = paper_in_strips(first_rest, second_rest, most)
        if more is not None:
            return shortened(paper + more)
        whole = paper_in_strips(first, second, most)
        if whole is not None:
            return shortened(whole)
    return shortened(paper + paper_in_strips(first_rest, second_rest, None))


def paper_in_strips(first, second, most):
    """A paper for figures that are equal by "level", made strip by strip; None if it has more pieces than most."""
    corners = [corner for polygon in first + second for corner in polygon]
    heights = ascending([second_of(corner) for corner in corners])
    here, there = strips_of(first, heights), strips_of(second, heights)
    paper = []
    for k in range(1, len(heights)):
        low = heights[k - 1]
        if not add_strip(paper, here[low], there[low], (low, heights[k]), most):
            return None
    return paper


def strips_of(figure, heights):
    """The slabs of a figure in the strips between neighbouring heights, by the lower ones of these."""
    strips = {height: [] for height in heights}
    for slab in slabs(figure, heights):
        strips[least([second_of(corner) for corner in slab])].append(slab)
    return strips
