"""Slabs: the parts into which level lines cut the polygons of a figure."""

from cutandlaid.numbers import ascending, ranks
from cutandlaid.points import at_height, first_of, line_through, second_of
from cutandlaid.polygons import from_least


def slabs(figure, heights):
    """The parts between neighbouring lines at the heights and at those of all corners, upwards."""
    corner_heights = [second_of(corner) for polygon in figure for corner in polygon]
    lines = ascending(heights + corner_heights)
    order = {height: k for k, height in enumerate(lines)}
    rows = [[] for _ in lines]
    for polygon in figure:
        add_slabs(polygon, lines, order, rows)
    return [slab for row in rows for slab in from_left(row)]


def add_slabs(polygon, lines, order, rows):
    """Add the parts of a polygon to the rows, one for each line, of the slabs that begin there."""
    left, right = borders(polygon, lines, order)
    for k in left:
        if k + 1 in left:
            corners = [left[k], right[k], right[k + 1], left[k + 1]]
            rows[k].append(from_least([corners[j] for j in range(4) if corners[j] != corners[j - 1]]))


def borders(polygon, lines, order):
    """The points on the left and on the right edges, by the numbers of the lines."""
    left, right = {}, {}
    for j in range(len(polygon)):
        start, end = polygon[j - 1], polygon[j]
        first, last = order[second_of(start)], order[second_of(end)]
        if first < last:
            add_crossings(start, end, lines[first:last + 1], first, right)
        elif last < first:
            add_crossings(end, start, lines[last:first + 1], last, left)
    return (left, right)


def add_crossings(low, high, lines, first, border):
    """Add the points of an edge, from low up to high, at the lines, of which one has the number first."""
    line = line_through(low, high)
    border[first] = low
    border[first + len(lines) - 1] = high
    for k in range(1, len(lines) - 1):
        border[first + k] = at_height(line, lines[k])


def from_left(row):
    """Polygons in ascending order of the first coordinates of their first corners."""
    places = ranks([first_of(slab[0]) for slab in row])
    return [slab for _, slab in sorted(zip(places, row))]
