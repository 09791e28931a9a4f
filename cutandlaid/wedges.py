"""Wedges and bars: what trapezoids are taken apart into.

A wedge is a trapezoid whose lower edge is a point; one whose upper edge is a point is kept after half
a turn, so as a wedge, too. A bar is a trapezoid whose left and right edges have the same slope.
"""

from cutandlaid.numbers import ascending, less, size_of
from cutandlaid.trapezoids import NOUGHT, joined, parted, parted_level, turned_half, within


def taken_apart(items, slope):
    """The wedges, the turned wedges and the bars of trapezoids; the slopes of the bars are near to one."""
    wedges, turned_wedges, bars = [], [], []
    for item in items:
        if less(item.right, item.left):
            bar = take_wedges(turned_half(item), slope, turned_wedges)
            if bar is not None:
                bars.append(turned_half(bar))
        else:
            bar = take_wedges(item, slope, wedges)
            if bar is not None:
                bars.append(bar)
    return (wedges, turned_wedges, bars)


def take_wedges(item, slope, wedges):
    """Add the wedges of a trapezoid that does not grow narrower upwards; the bar that is left, or None."""
    if item.low == NOUGHT:
        wedges.append(item)
        return None
    middle = within(item.left, slope, item.right)
    bar = item
    if less(item.left, middle):
        wedge, bar = parted(bar, middle, NOUGHT)
        wedges.append(wedge)
    if less(middle, item.right):
        bar, wedge = parted(bar, middle, bar.low)
        wedges.append(wedge)
    return bar


def lowered(wedge, height):
    """A wedge of a lesser height, one of the height that is left over, and a bar."""
    lower, upper = parted_level(wedge, height)
    # The bar gets that one of both slopes that leans less.
    if less(size_of(wedge.right), size_of(wedge.left)):
        rest, bar = parted(upper, wedge.right, NOUGHT)
    else:
        bar, rest = parted(upper, wedge.left, upper.low)
    return (lower, rest, bar)


class Pairing:
    """Wedges of two lists that are cut until they are alike, two by two.

    The slopes are gone through in ascending order. What the pairs do not need is left: wedges where
    the other list has none, and bars where heights are not the same.
    """

    def __init__(self, first, second):
        self.pairs = []
        self.left = ([], [])
        self.bars = ([], [])
        both = first + second
        self.slopes = ascending([wedge.left for wedge in both] + [wedge.right for wedge in both])
        self.order = {slope: k for k, slope in enumerate(self.slopes)}
        # For each list the wedges by the place of the slopes of their left edges in the order.
        self.beginning = ([[] for _ in self.slopes], [[] for _ in self.slopes])
        for wedge in first:
            self.put(0, wedge)
        for wedge in second:
            self.put(1, wedge)
        for k in range(len(self.slopes)):
            self.pair_at(k)

    def put(self, which, wedge):
        self.beginning[which][self.order[wedge.left]].append(wedge)

    def pair_at(self, k):
        """Deal with all wedges that begin at a slope."""
        here, there = self.beginning[0][k], self.beginning[1][k]
        while here and there:
            first, second = likest(here, there)
            self.pair(here.pop(first), there.pop(second))
        for which in range(2):
            while self.beginning[which][k]:
                self.leave(which, self.beginning[which][k].pop(), k)

    def pair(self, first, second):
        """Pair the parts of two wedges that are alike."""
        if first.height != second.height:
            if less(first.height, second.height):
                second = self.cut_height(1, second, first.height)
            else:
                first = self.cut_height(0, first, second.height)
        if first.right != second.right:
            if less(first.right, second.right):
                second = self.cut_slope(1, second, first.right)
            else:
                first = self.cut_slope(0, first, second.right)
        self.pairs.append((first, second))

    def cut_height(self, which, wedge, height):
        lower, rest, bar = lowered(wedge, height)
        self.put(which, rest)
        self.bars[which].append(bar)
        return lower

    def cut_slope(self, which, wedge, slope):
        wedge, rest = parted(wedge, slope, NOUGHT)
        self.put(which, rest)
        return wedge

    def leave(self, which, wedge, k):
        """Leave a wedge, up to the slope at which the other list has wedges again."""
        for j in range(k + 1, self.order[wedge.right]):
            if self.beginning[1 - which][j]:
                wedge = self.cut_slope(which, wedge, self.slopes[j])
                break
        self.left[which].append(wedge)


def likest(first, second):
    """The places of a wedge of one list and one of another one that can be paired with the fewest cuts."""
    best = None
    for k, wedge in enumerate(first):
        for j, other in enumerate(second):
            cuts = (0 if wedge.height == other.height else 2) + (0 if wedge.right == other.right else 1)
            if best is None or cuts < best[0]:
                best = (cuts, k, j)
    return best[1:]


def bars_of_both(pairs):
    """The bars that wedges make with those that are turned by half a turn, from pairs of such."""
    return [joined([wedge, turned_half(other)]) for wedge, other in pairs]


def turned_back(items):
    """Trapezoids after half a turn, each of them."""
    return [turned_half(item) for item in items]
