"""Polygons: the corners of a convex polygon against the clock, the one before all others first."""

from cutandlaid.numbers import number, total
from cutandlaid.points import comes_before, side


def is_polygon(value):
    """Whether a tuple of points is a polygon in its one form."""
    many = len(value)
    if many < 3:
        return False
    for k in range(many):
        if side(value[k - 2], value[k - 1], value[k]) != 1:
            return False
    # Where all turns go left, each way round has just one corner before both of its neighbours.
    return [k for k in range(many) if is_least_near(value, k)] == [0]


def is_least_near(corners, k):
    """Whether a corner comes before both of its neighbours."""
    after = corners[k + 1 - len(corners)]
    return comes_before(corners[k], corners[k - 1]) and comes_before(corners[k], after)


def from_least(corners):
    """The corners, in the same round, as a tuple that begins with the one before all others."""
    best = 0
    for k in range(1, len(corners)):
        if comes_before(corners[k], corners[best]):
            best = k
    return tuple(corners[best:] + corners[:best])


def polygon_of(points):
    """The polygon that the points go round, either way; None if they lie on one line."""
    round_trip = [points[k] for k in range(len(points)) if points[k] != points[k - 1]]
    many = len(round_trip)
    corners = [round_trip[k] for k in range(many)
               if side(round_trip[k - 1], round_trip[k], round_trip[k + 1 - many]) != 0]
    if len(corners) < 3:
        return None
    if side(corners[0], corners[1], corners[2]) < 0:
        corners = corners[::-1]
    return from_least(corners)


def area(polygon):
    """The area, a number."""
    terms = []
    for k in range(len(polygon)):
        (x, y, w), (u, v, t) = polygon[k - 1], polygon[k]
        terms.append(number(x * v - y * u, 2 * w * t))
    return total(terms)


def place(polygon, p):
    """1 if p is an inner point, 0 if it is on an edge or a corner, -1 if it is outside."""
    return min([side(polygon[k - 1], polygon[k], p) for k in range(len(polygon))])


def edges_of(polygon):
    """The pairs of the corners from which and to which the edges lead."""
    return [(polygon[k - 1], polygon[k]) for k in range(len(polygon))]
