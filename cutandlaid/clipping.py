"""Polygons cut by lines and by other polygons."""

from cutandlaid.points import line_through, line_value, point
from cutandlaid.polygons import from_least


def edge_lines(polygon):
    """The lines along the edges; the polygon lies to the left of each."""
    return [line_through(polygon[k - 1], polygon[k]) for k in range(len(polygon))]


def between(p, q, first, second):
    """The point of the edge from p to q on a line for which p and q have values of unlike signs."""
    here, there = abs(second), abs(first)
    return point(p[0] * here + q[0] * there, p[1] * here + q[1] * there, p[2] * here + q[2] * there)


def part_above(polygon, values):
    """The part where the values are above 0; the corners have values of both signs."""
    corners = []
    for k in range(len(polygon)):
        before, here = values[k - 1], values[k]
        if (before < 0 and here > 0) or (before > 0 and here < 0):
            corners.append(between(polygon[k - 1], polygon[k], before, here))
        if here >= 0:
            corners.append(polygon[k])
    return from_least(corners)


def left_part(polygon, line):
    """The part of a polygon on the left of a line, or None."""
    values = [line_value(line, corner) for corner in polygon]
    if min(values) >= 0:
        return polygon
    if max(values) <= 0:
        return None
    return part_above(polygon, values)


def cut(polygon, line):
    """The pair of the parts on the left and on the right of a line, each a polygon or None."""
    values = [line_value(line, corner) for corner in polygon]
    if min(values) >= 0:
        return (polygon, None)
    if max(values) <= 0:
        return (None, polygon)
    opposite = [-value for value in values]
    return (part_above(polygon, values), part_above(polygon, opposite))


def halves(polygon, a, b):
    """The pair of the parts on the left and on the right of the line from a to b, or None."""
    return cut(polygon, line_through(a, b))


def lies_beyond_an_edge(first, second):
    """Whether the second polygon has no point to the left of some edge of the first one."""
    for k in range(len(first)):
        (x, y, w), (u, v, t) = first[k - 1], first[k]
        # The line along the edge; to look for a common divisor would take longer than it saves.
        a, b, c = y * t - w * v, w * u - x * t, x * v - y * u
        for p, q, r in second:
            if a * p + b * q + c * r > 0:
                break
        else:
            return True
    return False


def meets(first, second):
    """Whether two polygons have an inner point in common."""
    # Of two convex polygons that do not meet one has an edge that parts them.
    return not (lies_beyond_an_edge(first, second) or lies_beyond_an_edge(second, first))


def meet(first, second):
    """The polygon that two polygons have in common, None if they do not meet."""
    common = first
    for line in edge_lines(second):
        common = left_part(common, line)
        if common is None:
            return None
    return common


def rest(first, second):
    """Polygons that cover the first polygon without the inner points of the second one."""
    inside = first
    pieces = []
    for line in edge_lines(second):
        inside, outside = cut(inside, line)
        if inside is None:
            # They do not meet, and what was cut off so far need not be.
            return [first]
        if outside is not None:
            pieces.append(outside)
    return pieces
