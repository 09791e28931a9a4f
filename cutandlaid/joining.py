"""Joining two polygons along an edge that they share from both sides."""

from cutandlaid.points import side
from cutandlaid.polygons import from_least


def joined_polygon(first, second, start, end):
    """The polygon that two polygons cover together, None if there is none.

    The first one has an edge from start to end, the second one has it from end to start.
    """
    here, there = ring_from(first, end), ring_from(second, start)
    # Only at the two ends of the edge a corner may turn the wrong way, or be none any more.
    turn_at_start = side(here[-2], start, there[1])
    turn_at_end = side(there[-2], end, here[1])
    if turn_at_start < 0 or turn_at_end < 0:
        return None
    if turn_at_start == 0:
        here = here[:-1]
    if turn_at_end == 0:
        there = there[:-1]
    return from_least(here[1:] + there[1:])


def ring_from(polygon, corner):
    """The corners as a list, in the same round, that begins with a corner."""
    k = polygon.index(corner)
    return list(polygon[k:] + polygon[:k])
