"""Figures that are equal along one direction: it is laid level, and what is found then is laid back."""

from cutandlaid.levelpapers import level_paper
from cutandlaid.polygons import from_least
from cutandlaid.sums import level_sums


def along_equal(first, second, direction):
    """Whether two figures are equal along a direction."""
    lay = level_map(direction)
    return level_sums(mapped_figure(lay, first)) == level_sums(mapped_figure(lay, second))


def along_paper(first, second, direction):
    """A right paper for "free" by slides along a direction alone, or None if there is none."""
    lay = level_map(direction)
    paper = level_paper(mapped_figure(lay, first), mapped_figure(lay, second))
    if paper is None:
        return None
    back = opposite_map(lay)
    return [(mapped_polygon(back, polygon), (0, mapped(back, v))) for polygon, (_, v) in paper]


def level_map(direction):
    """A map (a, b, c, d) of (x, y) to (a * x + b * y, c * x + d * y) that leads a direction to (1, 0).

    As its numbers are integers and a * d - b * c is 1, it keeps the areas, the sides of lines and
    the one way in which each point is written, and so does the map that leads back.
    """
    p, q = direction
    u, v = factors_for_one(p, q)
    return (u, v, -q, p)


def opposite_map(lay):
    a, b, c, d = lay
    return (d, -b, -c, a)


def factors_for_one(p, q):
    """Two integers u and v with u * p + v * q = 1, for integers without a common divisor greater than 1."""
    # Each of the triples tells a remainder, and how it is made of p and q.
    before, here = (p, 1, 0), (q, 0, 1)
    while here[0] != 0:
        many = before[0] // here[0]
        before, here = here, tuple([before[k] - many * here[k] for k in range(3)])
    return (before[0] * before[1], before[0] * before[2])


def mapped(lay, p):
    """The point, or the vector, to which a map leads one."""
    a, b, c, d = lay
    x, y, w = p
    return (a * x + b * y, c * x + d * y, w)


def mapped_polygon(lay, polygon):
    return from_least([mapped(lay, corner) for corner in polygon])


def mapped_figure(lay, figure):
    return [mapped_polygon(lay, polygon) for polygon in figure]
