"""What the tests share: short ways to write points and polygons, and a second way to reckon.

The second way uses Python's fractions and nothing of the program, so that the two check each other.
"""

import random
from fractions import Fraction
from math import gcd, lcm


def at(x, y):
    """The point for two integers or fractions, in its one form."""
    x, y = Fraction(x), Fraction(y)
    w = lcm(x.denominator, y.denominator)
    return (int(x * w), int(y * w), w)


def pts(*places):
    """A tuple of points for pairs of coordinates."""
    return tuple(at(x, y) for x, y in places)


def rect(left, low, right, high):
    return pts((left, low), (right, low), (right, high), (left, high))


def xy(p):
    return Fraction(p[0], p[2]), Fraction(p[1], p[2])


def turn(a, b, c):
    (ax, ay), (bx, by), (cx, cy) = a, b, c
    return (bx - ax) * (cy - ay) - (by - ay) * (cx - ax)


def hull(places):
    """The corners of the convex hull of pairs, against the clock, the least one first."""
    places = sorted(set(places))
    if len(places) < 3:
        return places
    halves = []
    for row in (places, places[::-1]):
        chain = []
        for place in row:
            while len(chain) > 1 and turn(chain[-2], chain[-1], place) <= 0:
                chain.pop()
            chain.append(place)
        halves.append(chain[:-1])
    return halves[0] + halves[1]


def in_one_form(p):
    """Whether a value is a point as point 3 writes it."""
    return (type(p) is tuple and len(p) == 3 and all(type(n) is int for n in p)
            and p[2] >= 1 and gcd(p[0], p[1], p[2]) == 1)


def well_written(polygon):
    """Whether a value is a polygon as point 5 writes it."""
    if type(polygon) is not tuple or len(polygon) < 3:
        return False
    if not all(in_one_form(p) for p in polygon):
        return False
    return hull([xy(p) for p in polygon]) == [xy(p) for p in polygon]


def spread(places):
    """The area that pairs go round, above 0 against the clock."""
    total = Fraction(0)
    for (x, y), (u, v) in zip(places, places[1:] + places[:1]):
        total += x * v - y * u
    return total / 2


def area_of(polygons):
    return sum((spread([xy(p) for p in polygon]) for polygon in polygons), Fraction(0))


def clipped(places, a, b):
    """The part of a convex round of pairs on the left of the line from a to b."""
    kept = []
    for p, q in zip(places, places[1:] + places[:1]):
        here, there = turn(a, b, p), turn(a, b, q)
        if here >= 0:
            kept.append(p)
        if here * there < 0:
            part = here / (here - there)
            kept.append((p[0] + (q[0] - p[0]) * part, p[1] + (q[1] - p[1]) * part))
    return kept


def common_area(first, second):
    """The area that two polygons have in common."""
    places = [xy(p) for p in first]
    edges = [xy(p) for p in second]
    for a, b in zip(edges, edges[1:] + edges[:1]):
        places = clipped(places, a, b)
        if not places:
            return Fraction(0)
    return spread(places)


def common_areas(first, second):
    here, there = [(box(a), a) for a in first], [(box(b), b) for b in second]
    return sum((common_area(a, b) for one, a in here for other, b in there if may_meet(one, other)), Fraction(0))


def box(polygon):
    """The least and greatest coordinates of the corners."""
    xs, ys = zip(*[xy(p) for p in polygon])
    return min(xs), max(xs), min(ys), max(ys)


def may_meet(box, other):
    return box[0] < other[1] and other[0] < box[1] and box[2] < other[3] and other[2] < box[3]


def place_of(polygon, x, y):
    """1 for an inner point, 0 on the border, -1 outside."""
    places = [xy(p) for p in polygon]
    turns = [turn(a, b, (x, y)) for a, b in zip(places, places[1:] + places[:1])]
    return 1 if min(turns) > 0 else 0 if min(turns) == 0 else -1


def is_right_figure(value):
    """Whether a value is a list of well written polygons of which no two meet."""
    if type(value) is not list or not all(well_written(polygon) for polygon in value):
        return False
    boxes = [box(polygon) for polygon in value]
    return all(common_area(value[k], value[j]) == 0
               for k in range(len(value)) for j in range(k) if may_meet(boxes[k], boxes[j]))


def random_polygon(source, spread_of=10, most=8, finest=6):
    """A convex polygon around some random points."""
    while True:
        places = []
        for _ in range(source.randrange(3, most + 1)):
            w = source.randrange(1, finest + 1)
            places.append((Fraction(source.randrange(-spread_of * w, spread_of * w + 1), w),
                           Fraction(source.randrange(-spread_of * w, spread_of * w + 1), w)))
        corners = hull(places)
        if len(corners) >= 3 and spread(corners) > 0:
            return pts(*corners)


def random_figure(source, many=4, across=3):
    """A figure of random polygons that stand beside one another in fields of a board."""
    figure = []
    for field in source.sample(range(across * across), many):
        dx, dy = 8 * (field // across), 8 * (field % across)
        polygon = random_polygon(source, spread_of=4)
        figure.append(pts(*[(x + dx, y + dy) for x, y in map(xy, polygon)]))
    return figure


def twelve_corners(x, y, w, size=1):
    """A polygon with twelve corners around the place (x / w, y / w), their denominators w or its divisors."""
    ring = [(26, 0), (24, 10), (19, 18), (10, 24), (0, 26), (-10, 24),
            (-19, 18), (-24, 10), (-26, 0), (-24, -10), (0, -26), (10, -24)]
    corners = [(Fraction(x + size * dx, w), Fraction(y + size * dy, w)) for dx, dy in ring]
    return pts(*hull(corners))


def seeded(number):
    return random.Random(number)


def carried(motion, place):
    """The pair of coordinates to which a motion brings a pair: quarter turns, then the slide."""
    k, v = motion
    x, y = place
    for _ in range(k):
        x, y = -y, x
    dx, dy = xy(v)
    return x + dx, y + dy


def carried_polygon(motion, polygon):
    return pts(*hull([carried(motion, xy(p)) for p in polygon]))


def inside(polygon):
    """A pair of coordinates of an inner point."""
    places = [xy(p) for p in polygon]
    return (sum(x for x, _ in places) / len(places), sum(y for _, y in places) / len(places))


def split(source, polygon, cuts):
    """The parts into which some random lines cut a polygon, each line all of them."""
    parts = [[xy(p) for p in polygon]]
    for _ in range(cuts):
        a, b = [weighted(source, parts[0]) for _ in range(2)]
        if a != b:
            both = [clipped(part, *ends) for part in parts for ends in ((a, b), (b, a))]
            parts = [hull(part) for part in both if part and spread(part) != 0]
    return [pts(*part) for part in parts]


def weighted(source, places):
    """A random pair of coordinates within a convex round of pairs."""
    weights = [source.randrange(1, 9) for _ in places]
    return tuple(sum(w * place[k] for w, place in zip(weights, places)) / sum(weights) for k in range(2))


TURNS = {"level": (0,), "grid": (0,), "grid2": (0, 2), "grid4": (0, 1, 2, 3),
         "free": (0,), "free2": (0, 2), "free4": (0, 1, 2, 3)}


def random_motion(source, group):
    k = source.choice(TURNS[group])
    w = 1 if group.startswith("grid") else source.randrange(1, 9)
    y = 0 if group == "level" else source.randrange(-30, 31)
    return k, at(Fraction(source.randrange(-30, 31), w), Fraction(y, w))


def random_paper(source, figure, group, cuts=2):
    """A paper of pieces of a figure that are laid beside one another, none onto another one."""
    paper, edge = [], 0
    for polygon in figure:
        for piece in split(source, polygon, cuts):
            k, v = random_motion(source, group)
            left = min(xy(p)[0] for p in carried_polygon((k, v), piece))
            v = at(xy(v)[0] + (edge - left).__ceil__(), xy(v)[1])
            right = max(xy(p)[0] for p in carried_polygon((k, v), piece))
            paper.append((piece, (k, v)))
            edge = right + source.randrange(2)
    return paper


def is_right(paper, first, second, group):
    """Whether a list of pairs is a right paper, by the second way to reckon."""
    pieces = [polygon for polygon, _ in paper]
    laid = [carried_polygon(motion, polygon) for polygon, motion in paper]
    if not all(is_motion_of(motion, group) for _, motion in paper):
        return False
    return (is_right_figure(pieces) and area_of(pieces) == area_of(first) == common_areas(pieces, first)
            and is_right_figure(laid) and area_of(laid) == area_of(second) == common_areas(laid, second))


def is_motion_of(motion, group):
    if type(motion) is not tuple or motion[0] not in TURNS[group] or not in_one_form(motion[1]):
        return False
    if group == "level":
        return motion[1][1] == 0
    return motion[1][2] == 1 or group.startswith("free")


def where(paper, place):
    """To where a paper brings a pair of coordinates: None outside of its pieces and on their edges."""
    for polygon, motion in paper:
        if place_of(polygon, *place) == 1:
            return carried(motion, place)
    return None
