"""Motions: pairs (k, v) of k quarter turns about (0, 0), against the clock, and then the slide by v."""

from cutandlaid.points import added, difference
from cutandlaid.polygons import from_least

STAY = (0, (0, 0, 1))


def turned(k, p):
    """A point, or a vector, after k quarter turns."""
    x, y, w = p
    if k == 0:
        return p
    if k == 1:
        return (-y, x, w)
    if k == 2:
        return (-x, -y, w)
    return (y, -x, w)


def moved(motion, p):
    """The point to which a motion brings a point."""
    k, v = motion
    return added(turned(k, p), v)


def follow(first, second):
    """The motion that does the first motion and then the second one."""
    return ((first[0] + second[0]) % 4, moved(second, first[1]))


def undo(motion):
    """The motion that leads back."""
    k, v = motion
    back = -k % 4
    return (back, turned(back, difference((0, 0, 1), v)))


def moved_polygon(motion, polygon):
    """The polygon to which a motion brings a polygon."""
    corners = [moved(motion, corner) for corner in polygon]
    if motion[0] == 0:
        # A slide leaves the corner first that comes before all others.
        return tuple(corners)
    return from_least(corners)


def moved_figure(motion, figure):
    """The figure with its polygons moved, in order."""
    return [moved_polygon(motion, polygon) for polygon in figure]
