"""What the tests share: short ways to write points and polygons, and a second way to reckon.

The second way uses Python's fractions and nothing of the program, so that the two check each other.
"""

import random
from fractions import Fraction
from math import gcd, lcm


def at(x, y):
    """The point for two integers or fractions, in its one form."""
    x, y = Fraction(x), Fraction(y)
    w = lcm(x.denominator, y.denominator)
    return (int(x * w), int(y * w), w)


def pts(*places):
    """A tuple of points for pairs of coordinates."""
    return tuple(at(x, y) for x, y in places)


def rect(left, low, right, high):
    return pts((left, low), (right, low), (right, high), (left, high))


def xy(p):
    return Fraction(p[0], p[2]), Fraction(p[1], p[2])


def turn(a, b, c):
    (ax, ay), (bx, by), (cx, cy) = a, b, c
    return (bx - ax) * (cy - ay) - (by - ay) * (cx - ax)


def hull(places):
    """The corners of the convex hull of pairs, against the clock, the least one first."""
    places = sorted(set(places))
    if len(places) < 3:
        return places
    halves = []
    for row in (places, places[::-1]):
        chain = []
        for place in row:
            while len(chain) > 1 and turn(chain[-2], chain[-1], place) <= 0:
                chain.pop()
            chain.append(place)
        halves.append(chain[:-1])
    return halves[0] + halves[1]


def in_one_form(p):
    """Whether a value is a point as point 3 writes it."""
    return (type(p) is tuple and len(p) == 3 and all(type(n) is int for n in p)
            and p[2] >= 1 and gcd(p[0], p[1], p[2]) == 1)


def well_written(polygon):
    """Whether a value is a polygon as point 5 writes it."""
    if type(polygon) is not tuple or len(polygon) < 3:
        return False
    if not all(in_one_form(p) for p in polygon):
        return False
    return hull([xy(p) for p in polygon]) == [xy(p) for p in polygon]


def spread(places):
    """The area that pairs go round, above 0 against the clock."""
    total = Fraction(0)
    for (x, y), (u, v) in zip(places, places[1:] + places[:1]):
        total += x * v - y * u
    return total / 2


def area_of(polygons):
    return sum((spread([xy(p) for p in polygon]) for polygon in polygons), Fraction(0))


def clipped(places, a, b):
    """The part of a convex round of pairs on the left of the line from a to b."""
    kept = []
    for p, q in zip(places, places[1:] + places[:1]):
        here, there = turn(a, b, p), turn(a, b, q)
        if here >= 0:
            kept.append(p)
        if here * there < 0:
            part = here / (here - there)
            kept.append((p[0] + (q[0] - p[0]) * part, p[1] + (q[1] - p[1]) * part))
    return kept


def common_area(first, second):
    """The area that two polygons have in common."""
    places = [xy(p) for p in first]
    edges = [xy(p) for p in second]
    for a, b in zip(edges, edges[1:] + edges[:1]):
        places = clipped(places, a, b)
        if not places:
            return Fraction(0)
    return spread(places)


def common_areas(first, second):
    return sum((common_area(a, b) for a in first for b in second), Fraction(0))


def place_of(polygon, x, y):
    """1 for an inner point, 0 on the border, -1 outside."""
    places = [xy(p) for p in polygon]
    turns = [turn(a, b, (x, y)) for a, b in zip(places, places[1:] + places[:1])]
    return 1 if min(turns) > 0 else 0 if min(turns) == 0 else -1


def is_right_figure(value):
    """Whether a value is a list of well written polygons of which no two meet."""
    if type(value) is not list or not all(well_written(polygon) for polygon in value):
        return False
    return all(common_area(value[k], value[j]) == 0
               for k in range(len(value)) for j in range(k))


def random_polygon(source, spread_of=10, most=8, finest=6):
    """A convex polygon around some random points."""
    while True:
        places = []
        for _ in range(source.randrange(3, most + 1)):
            w = source.randrange(1, finest + 1)
            places.append((Fraction(source.randrange(-spread_of * w, spread_of * w + 1), w),
                           Fraction(source.randrange(-spread_of * w, spread_of * w + 1), w)))
        corners = hull(places)
        if len(corners) >= 3 and spread(corners) > 0:
            return pts(*corners)


def random_figure(source, many=4, across=3):
    """A figure of random polygons that stand beside one another in fields of a board."""
    figure = []
    for field in source.sample(range(across * across), many):
        dx, dy = 8 * (field // across), 8 * (field % across)
        polygon = random_polygon(source, spread_of=4)
        figure.append(pts(*[(x + dx, y + dy) for x, y in map(xy, polygon)]))
    return figure


def twelve_corners(x, y, w, size=1):
    """A polygon with twelve corners around the place (x / w, y / w), their denominators w or its divisors."""
    ring = [(26, 0), (24, 10), (19, 18), (10, 24), (0, 26), (-10, 24),
            (-19, 18), (-24, 10), (-26, 0), (-24, -10), (0, -26), (10, -24)]
    corners = [(Fraction(x + size * dx, w), Fraction(y + size * dy, w)) for dx, dy in ring]
    return pts(*hull(corners))


def seeded(number):
    return random.Random(number)
