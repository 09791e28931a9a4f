"""Shortening papers: pieces with the same motion that make a polygon together are joined."""

from cutandlaid.joining import joined_polygon
from cutandlaid.polygons import edges_of


def shortened(paper):
    """A paper in which no two pairs can be joined, for each motion of pieces that cover what they covered."""
    by_motion = {}
    for polygon, motion in paper:
        by_motion.setdefault(motion, []).append(polygon)
    return [(polygon, motion) for motion in by_motion for polygon in joined_pieces(by_motion[motion])]


def joined_pieces(pieces):
    """Polygons that cover what polygons of which no two meet cover, and of which no two make one polygon."""
    whole = list(pieces)
    # Two polygons make one only if they have a whole edge in common, each from its side.
    by_edge = {edge: k for k, polygon in enumerate(whole) for edge in edges_of(polygon)}
    waiting = list(range(len(whole)))[::-1]
    while waiting:
        k = waiting.pop()
        if whole[k] is None:
            continue
        j, polygon = neighbour(k, whole, by_edge)
        if polygon is not None:
            # The joined polygon may be joined further, so it waits again in place of both.
            for gone in (k, j):
                for edge in edges_of(whole[gone]):
                    by_edge.pop(edge, None)
            whole[k], whole[j] = polygon, None
            for edge in edges_of(polygon):
                by_edge[edge] = k
            waiting.append(k)
    return [polygon for polygon in whole if polygon is not None]


def neighbour(k, whole, by_edge):
    """The number of a polygon that makes one with polygon k, and that one; a pair of None if there is none."""
    for start, end in edges_of(whole[k]):
        j = by_edge.get((end, start))
        if j is not None:
            polygon = joined_polygon(whole[k], whole[j], start, end)
            if polygon is not None:
                return (j, polygon)
    return (None, None)
