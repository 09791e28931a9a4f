"""Sums that stay when a figure is cut and its pieces are laid by the motions of a group."""

from math import gcd

from cutandlaid.errors import OnEdge
from cutandlaid.groups import TURNS
from cutandlaid.motions import turned
from cutandlaid.numbers import ascending, greatest, least, less, number, plus, times, total
from cutandlaid.points import difference, first_of, line_through, second_of
from cutandlaid.polygons import edges_of

NOUGHT = (0, 1)


def edge_sums(figure):
    """The list of the pairs of a direction and its sum over all edges that is not nought."""
    lengths = {}
    for polygon in figure:
        for start, end in edges_of(polygon):
            direction, length = along(difference(end, start))
            lengths.setdefault(direction, []).append(length)
    sums = [(direction, total(lengths[direction])) for direction in sorted(lengths)]
    return [(direction, amount) for direction, amount in sums if amount != NOUGHT]


def along(vector):
    """The direction of a vector that is not nought, and its length along it."""
    x, y, w = vector
    common = gcd(x, y)
    if y < 0 or (y == 0 and x < 0):
        common = -common
    return ((x // common, y // common), number(common, w))


def sides_of(figure):
    """The edges that are not level, as tuples (low, high, slope, base, count).

    At the height y, from low to high, an edge is at the place base + slope * y. The count is 1 for
    a right edge and -1 for a left one.
    """
    sides = []
    for polygon in figure:
        for start, end in edges_of(polygon):
            low, high = second_of(start), second_of(end)
            if low == high:
                continue
            a, b, c = line_through(start, end)
            slope, base = number(-b, a), number(-c, a)
            if less(low, high):
                sides.append((low, high, slope, base, 1))
            else:
                sides.append((high, low, slope, base, -1))
    return sides


def level_at(figure, y):
    """The pair of the width and the list of the crossings that are not 0 at a height."""
    places, counts = [], {}
    for low, high, slope, base, count in sides_of(figure):
        if y in (low, high):
            raise OnEdge()
        if less(low, y) and less(y, high):
            places.append(times((count, 1), plus(base, times(slope, y))))
            counts[slope] = counts.get(slope, 0) + count
    slopes = [slope for slope in ascending(list(counts)) if counts[slope] != 0]
    return (total(places), [(slope, counts[slope]) for slope in slopes])


class Level:
    """A level line on its way upwards over a figure, and what is told of the figure along it."""

    def __init__(self, slopes):
        self.slopes = slopes
        self.order = {slope: k for k, slope in enumerate(slopes)}
        self.counts = {}
        # The width at the height y is base + growth * y.
        self.base = NOUGHT
        self.growth = NOUGHT

    def take(self, slope, base, count):
        """Pass the beginning of an edge, or its end with the count the other way."""
        place = self.order[slope]
        after = self.counts.get(place, 0) + count
        if after == 0:
            del self.counts[place]
        else:
            self.counts[place] = after
        self.base = plus(self.base, times((count, 1), base))
        self.growth = plus(self.growth, times((count, 1), slope))

    def told(self):
        """The base, the growth and the crossings, which together tell all until the next change."""
        crossings = [(self.slopes[place], self.counts[place]) for place in sorted(self.counts)]
        return (self.base, self.growth, crossings)


def changes_of(sides):
    """For each height at which an edge begins or ends, what a level line is to take there."""
    changes = {}
    for low, high, slope, base, count in sides:
        changes.setdefault(low, []).append((slope, base, count))
        changes.setdefault(high, []).append((slope, base, -count))
    return changes


def level_sums(figure):
    """The strips (low, high, width, growth, crossings), each as high as it can be."""
    sides = sides_of(figure)
    changes = changes_of(sides)
    level = Level(ascending([slope for _, _, slope, _, _ in sides]))
    strips = []
    begun, before = NOUGHT, level.told()
    for height in ascending(list(changes)):
        for slope, base, count in changes[height]:
            level.take(slope, base, count)
        now = level.told()
        if now != before:
            base, growth, crossings = before
            if (base, growth) != (NOUGHT, NOUGHT):
                width = plus(base, times(growth, begun))
                strips.append((begun, height, width, growth, crossings))
            begun, before = height, now
    return strips


def covers(figure, p, group):
    """How many different points that motions of a grid group make of a point the figure covers."""
    many = 0
    # Points that differ by whole steps are made of one another, so one of each kind is enough.
    for x, y, w in sorted({within_field(turned(k, p)) for k in TURNS[group]}):
        for polygon in figure:
            many += copies_inside(polygon, (x, y, w))
    return many


def within_field(p):
    """The point of the field from (0, 0) to (1, 1) that differs from a point by whole steps."""
    x, y, w = p
    return (x % w, y % w, w)


def copies_inside(polygon, p):
    """How many inner points differ from a point by whole steps; OnEdge if one on an edge does."""
    many = 0
    for start, end in edges_of(polygon):
        if less(second_of(start), second_of(end)):
            many += copies_beside(start, end, p)
        elif less(second_of(end), second_of(start)):
            many -= copies_beside(end, start, p)
        elif copy_on_level_edge(start, end, p):
            raise OnEdge()
    return many


def copies_beside(low, high, p):
    """The sum, over the rows that an edge upwards crosses, of the steps to the last copy left of it.

    The sum of the right edges of a polygon less that of its left edges counts the copies between.
    """
    a, b, c = line_through(low, high)
    x, y, w = p
    many = 0
    for row in range(-whole_steps(second_of(low), (y, w)), whole_steps((y, w), second_of(high)) + 1):
        height = y + row * w
        steps, left = divmod(-(a * x + b * height + c * w), a * w)
        if left == 0:
            raise OnEdge()
        # A row through a corner is crossed by the edge above it alone.
        if height * high[2] < high[1] * w:
            many += steps
    return many


def copy_on_level_edge(start, end, p):
    """Whether a point on a level edge differs from a point by whole steps."""
    x, y, w = p
    if (start[1] * w - y * start[2]) % (start[2] * w) != 0:
        return False
    ends = [first_of(start), first_of(end)]
    return -whole_steps(least(ends), (x, w)) <= whole_steps((x, w), greatest(ends))


def whole_steps(start, end):
    """The greatest whole number of steps from one number that do not lead beyond another one."""
    return (end[0] * start[1] - start[0] * end[1]) // (end[1] * start[1])
