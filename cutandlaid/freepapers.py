"""Papers for "free" and "free2": figures are taken apart into wedges and bars, and these are matched."""

from cutandlaid.assembling import matched_whole
from cutandlaid.bars import leaned
from cutandlaid.figures import figure_area
from cutandlaid.numbers import less, over, times
from cutandlaid.papers import inverse
from cutandlaid.piles import MANY, bars_paper, effort, is_too_narrow, of_width, paper_of_pairs
from cutandlaid.points import point_of
from cutandlaid.polygons import polygon_of
from cutandlaid.slabs import slabs
from cutandlaid.sums import edge_sums
from cutandlaid.trapezoids import (NOUGHT, ORIGIN, joined, parted, parted_level, rectangle_of, trapezoid_of,
                                   turned_half, within)
from cutandlaid.wedgepairs import paired_wedges


def turn_over(a, b, c, d):
    """A right paper for "free" from the rectangle of the lengths a and b to the one of c and d."""
    return inverse(of_width(rectangle_of(a, b), c, NOUGHT).layers)


def fill(l, r, h):
    """A right paper for "free2" from the triangle upwards from (0, 0), of slopes l and r, to a rectangle."""
    corners = [ORIGIN, point_of(times(r, h), h), point_of(times(l, h), h)]
    bar = straightened(trapezoid_of(polygon_of(corners)))
    return inverse(leaned(bar, NOUGHT).layers)


def straightened(item):
    """The bar of half the height that the lower half of a trapezoid makes with the upper one."""
    if less(item.right, item.left):
        return straightened(turned_half(item))
    lower, upper = parted_level(item, over(item.height, (2, 1)))
    below = turned_half(lower)
    # All slopes between those of both edges can be had; the one that leans least is taken.
    slope = within(item.left, NOUGHT, item.right)
    if slope == item.left:
        return joined([upper, below])
    if slope == item.right:
        return joined([below, upper])
    wedge, upper = parted(upper, slope, NOUGHT)
    return joined([upper, below, wedge])


def trapezoids_of(figure):
    """The trapezoids into which level lines cut each polygon of a figure at its own corners."""
    return [trapezoid_of(slab) for polygon in figure for slab in slabs([polygon], [])]


def half_paper(first, second):
    """A right paper for "free2", or None if there is none."""
    if figure_area(first) != figure_area(second):
        return None
    return paper_by_area(first, second, ("free", "free2"))


def paper_by_area(first, second, groups):
    """A paper for figures with the same area, by motions of the last one of some groups, of which "free2" is one."""
    paper, first_rest, second_rest = [], first, second
    # Polygons that fit one another without a turn are more likely to belong together.
    for group in groups:
        more, first_rest, second_rest = matched_whole(first_rest, second_rest, group)
        paper.extend(more)
    bars = (straightened_bars(first_rest), straightened_bars(second_rest))
    all_bars = (straightened_bars(first), straightened_bars(second))
    if is_too_narrow(bars, all_bars):
        return bars_paper(all_bars[0], all_bars[1])
    return paper + bars_paper(bars[0], bars[1])


def straightened_bars(figure):
    return [straightened(item) for item in trapezoids_of(figure)]


def free_paper(first, second):
    """A right paper for "free", or None if there is none."""
    if figure_area(first) != figure_area(second) or edge_sums(first) != edge_sums(second):
        return None
    paper, first_rest, second_rest = matched_whole(first, second, "free")
    pairs, bars = paired_wedges(trapezoids_of(first_rest), trapezoids_of(second_rest), False)
    if effort(bars[0], bars[1]) > MANY:
        # Bars that are wide enough for narrow ones are taken from what need not have been cut.
        all_pairs, all_bars = paired_wedges(trapezoids_of(first), trapezoids_of(second), True)
        if is_too_narrow(bars, all_bars):
            paper, pairs, bars = [], all_pairs, all_bars
    return paper + paper_of_pairs(pairs) + bars_paper(bars[0], bars[1])
