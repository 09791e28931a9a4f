"""Differences of two figures: what shows that they are not equal by a group, as witnesses."""

from cutandlaid.assembling import matched_whole
from cutandlaid.errors import OnEdge
from cutandlaid.figures import figure_area
from cutandlaid.gridpapers import fold_difference, folded_apart
from cutandlaid.numbers import ascending, less, minus, over, plus, times
from cutandlaid.points import point, second_of
from cutandlaid.sums import covers, edge_sums, level_sums


def find_witness(first, second, group):
    """A witness that two figures are not equal by a group, None if they are equal."""
    if figure_area(first) != figure_area(second):
        return ("area",)
    if group in ("level", "grid", "free"):
        direction = unlike_direction(edge_sums(first), edge_sums(second))
        if direction is not None:
            return ("edges", direction)
    if group == "level":
        height = unlike_height(first, second)
        return None if height is None else ("level", height)
    if group in ("grid", "grid2", "grid4"):
        place = unlike_place(first, second, group)
        return None if place is None else ("covers", place)
    return None


def unlike_direction(first, second):
    """The first direction for which two lists of edge sums have different numbers, or None."""
    here, there = dict(first), dict(second)
    for direction, _ in first + second:
        if here.get(direction) != there.get(direction):
            return direction
    return None


def unlike_height(first, second):
    """A height, no corner's, at which the crossings or the widths of two figures are different, or None."""
    # Polygons that are equal as a whole add the same to both sums.
    _, first_rest, second_rest = matched_whole(first, second, "level")
    here, there = level_sums(first_rest), level_sums(second_rest)
    if here == there:
        return None
    limits = ascending([height for strip in here + there for height in strip[:2]])
    for k in range(1, len(limits)):
        low, high = limits[k - 1], limits[k]
        if told_between(here, low, high) != told_between(there, low, high):
            return height_between(low, high, first + second)
    return None


def told_between(strips, low, high):
    """What level sums tell between two heights between which no strip begins or ends, or None."""
    for bottom, top, width, growth, crossings in strips:
        if not less(low, bottom) and not less(top, high):
            # The crossings tell the growth, so that one width of all is enough beside them.
            return (plus(width, times(growth, minus(low, bottom))), crossings)
    return None


def height_between(low, high, polygons):
    """A height between two others that is no corner's."""
    corners = {second_of(corner): True for polygon in polygons for corner in polygon}
    parts = 2
    while True:
        height = plus(low, over(minus(high, low), (parts, 1)))
        if height not in corners:
            return height
        parts += 1


def unlike_place(first, second, group):
    """A point at which the covers of two figures are told and different, or None."""
    _, here, there = folded_apart(first, second, group)
    difference = fold_difference(here, there)
    for line, corner in difference:
        return place_beside(line, corner, first, second, group)
    return None


def place_beside(line, corner, first, second, group):
    """A point close to a corner and to a line at which the covers are different.

    As something begins or ends along the line at the corner, the covers are different on one side
    of the line on one side of the corner, if only close enough to both.
    """
    closer = 4
    while True:
        for p in places_beside(line, corner, closer):
            if are_covered_unlike(first, second, p, group):
                return p
        closer = closer * closer


def places_beside(line, corner, closer):
    """The points on both sides of a corner along a line, and on both sides of the line."""
    a, b, _ = line
    x, y, w = corner
    # The longer one of the two lengths, so that the steps are small beside a square of the grid.
    size = max(abs(a), abs(b))
    w, x, y = w * size * closer * closer, x * size * closer * closer, y * size * closer * closer
    step = w // (size * closer)
    side = w // (size * closer * closer)
    return [point(x + ahead * b * step + aside * a * side, y - ahead * a * step + aside * b * side, w)
            for ahead in (1, -1) for aside in (1, -1)]


def are_covered_unlike(first, second, p, group):
    """Whether the covers of two figures are told at a point and different."""
    try:
        return covers(first, p, group) != covers(second, p, group)
    except OnEdge:
        return False
