"""Matching layers cell by cell: the plane is cut along edges until what lies in each cell is simple.

Where many layers meet, cutting each one by each other one would give far too many pieces. In a cell,
those that cover all of it are matched as they are, and only the others need be cut further.
"""

from cutandlaid.clipping import cut, edge_lines, rest
from cutandlaid.figures import bounds
from cutandlaid.frames import near
from cutandlaid.matching import match_plainly, without_alike
from cutandlaid.points import line_value, one_way, point_of

# Layers are matched plainly where there are at most so many pairs that may meet for each layer.
FEW = 3
# How many of the commonest lines, and about how many others, are tried to find a good one.
TRIALS = 4


def match_in_cells(first, second, matching):
    """Match two lists of layers; what is left of the one does not meet what is left of the other."""
    if not first or not second:
        leave_both(first, second, matching)
        return
    waiting = [(board(first + second), first, second)]
    while waiting:
        cell, here, there = waiting.pop()
        here, there = without_alike(here, there, matching)
        if not here or not there:
            leave_both(here, there, matching)
        elif whole_ones(cell, here) >= len(there):
            match_with_whole_ones(cell, 1, there, here, matching)
        elif whole_ones(cell, there) >= len(here):
            match_with_whole_ones(cell, 0, here, there, matching)
        else:
            neighbours = near(polygons_of(there), polygons_of(here))
            if sum([len(row) for row in neighbours]) <= FEW * (len(here) + len(there)):
                match_plainly(here, there, neighbours, matching)
            else:
                waiting.extend(cut_cell(cell, here, there))


def leave_both(first, second, matching):
    matching.leave(0, first)
    matching.leave(1, second)


def polygons_of(layers):
    return [polygon for polygon, _ in layers]


def board(layers):
    """The least upright rectangle that covers all layers."""
    (left, low), (right, high) = bounds(polygons_of(layers))
    return (point_of(left, low), point_of(right, low), point_of(right, high), point_of(left, high))


def whole_ones(cell, layers):
    """How many of the layers cover the whole cell."""
    return polygons_of(layers).count(cell)


def match_with_whole_ones(cell, which, layers, others, matching):
    """Match each of the layers with another one of the other list that covers the whole cell."""
    whole = [motion for polygon, motion in others if polygon == cell]
    for k, (polygon, motion) in enumerate(layers):
        matching.pair(polygon, which, motion, whole[k])
        matching.leave(1 - which, [(left, whole[k]) for left in rest(cell, polygon)])
    matching.leave(1 - which, [(cell, motion) for motion in whole[len(layers):]])
    matching.leave(1 - which, [layer for layer in others if layer[0] != cell])


def cut_cell(cell, first, second):
    """The two parts of a cell on both sides of a line, each with the parts of the layers in it."""
    line = good_line(cell, [polygon for polygon in polygons_of(first + second) if polygon != cell])
    cells = cut(cell, line)
    here, there = cut_layers(first, line), cut_layers(second, line)
    return [(cells[k], here[k], there[k]) for k in range(2)]


def cut_layers(layers, line):
    """The pair of the lists of the parts on the left and on the right of a line."""
    sides = ([], [])
    for polygon, motion in layers:
        parts = cut(polygon, line)
        for k in range(2):
            if parts[k] is not None:
                sides[k].append((parts[k], motion))
    return sides


def good_line(cell, polygons):
    """A line along edges of the polygons that parts the cell so that both parts have few polygons."""
    many = {}
    for polygon in polygons:
        for line in edge_lines(polygon):
            way = one_way(line)
            many[way] = many.get(way, 0) + 1
    # An edge that many polygons share is cut off from all of them at once.
    ordered = sorted(many, key=lambda entry: -many[entry])
    possible = [entry for entry in ordered if parts_cell(cell, entry)]
    step = len(possible) // TRIALS + 1
    tried = possible[:TRIALS] + possible[TRIALS::step]
    return min(tried, key=lambda entry: burden(entry, polygons))


def parts_cell(cell, line):
    values = [line_value(line, corner) for corner in cell]
    return min(values) < 0 and max(values) > 0


def burden(line, polygons):
    """A number that is the greater the more polygons there are on the sides of a line."""
    a, b, c = line
    left, right = 0, 0
    for polygon in polygons:
        values = [a * x + b * y + c * w for x, y, w in polygon]
        if max(values) > 0:
            left += 1
        if min(values) < 0:
            right += 1
    return 4 * max(left, right) + left + right
