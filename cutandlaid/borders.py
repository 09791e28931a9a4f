"""The borders of lists of polygons: a quick way to see that two lists cover each place alike often."""

from cutandlaid.points import line_through, one_way
from cutandlaid.polygons import edges_of


def border_difference(first, second):
    """A dict that is empty if and only if each place is inside of equally many polygons of two lists.

    How many polygons there are at a place changes at edges alone. Along a line these changes begin
    and end at corners, and where one edge undoes another one nothing begins and nothing ends. So
    the dict tells, for each line and each corner on it, how many changes more begin there than end,
    for the first list, less that number for the second one, where this is not nought.
    """
    # Polygons that stand in both lists undo one another as a whole.
    many = {}
    for polygon in first:
        many[polygon] = many.get(polygon, 0) + 1
    for polygon in second:
        many[polygon] = many.get(polygon, 0) - 1
    counts = {}
    for polygon in many:
        if many[polygon] != 0:
            add_edges(polygon, many[polygon], counts)
    return {key: counts[key] for key in counts if counts[key] != 0}


def add_edges(polygon, many, counts):
    """Add the edges of a polygon, so many times, to what begins at the corners of each line."""
    for start, end in edges_of(polygon):
        line = one_way(line_through(start, end))
        counts[(line, start)] = counts.get((line, start), 0) + many
        counts[(line, end)] = counts.get((line, end), 0) - many


def cover_alike(first, second):
    """Whether each place that is on no edge is inside of equally many polygons of two lists."""
    return len(border_difference(first, second)) == 0
