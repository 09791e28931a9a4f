"""The borders of lists of polygons: a quick way to see that two lists cover each place alike often."""

from cutandlaid.points import line_through, one_way
from cutandlaid.polygons import edges_of


def border(polygons):
    """A dict that is equal for two lists if and only if each place is inside of equally many polygons.

    How many polygons there are at a place changes at edges alone. Along a line these changes begin
    and end at corners, and where one edge undoes another one nothing begins and nothing ends. So
    the dict tells, for each line and each corner on it, how many changes begin there, less how many end.
    """
    counts = {}
    for polygon in polygons:
        for start, end in edges_of(polygon):
            line = one_way(line_through(start, end))
            counts[(line, start)] = counts.get((line, start), 0) + 1
            counts[(line, end)] = counts.get((line, end), 0) - 1
    return {key: counts[key] for key in counts if counts[key] != 0}


def cover_alike(first, second):
    """Whether each place that is on no edge is inside of equally many polygons of two lists."""
    return border(first) == border(second)
