"""Figures: lists of polygons of which no two meet."""

from cutandlaid.borders import cover_alike
from cutandlaid.clipping import meet, meets, rest
from cutandlaid.frames import frame, near, overlap
from cutandlaid.numbers import greatest, least, total
from cutandlaid.points import first_of, second_of
from cutandlaid.polygons import area, place


def figure_area(figure):
    """The sum of the areas of the polygons, a number."""
    return total([area(polygon) for polygon in figure])


def meet_figures(first, second):
    """A figure that covers what both figures cover."""
    common = []
    for k, others in enumerate(near(first, second)):
        for j in others:
            polygon = meet(first[k], second[j])
            if polygon is not None:
                common.append(polygon)
    return common


def along_longer_side(box, other):
    """The doubled middle of another frame, along the longer side of the first one."""
    if box[2] - box[0] > box[3] - box[1]:
        return other[0] + other[2]
    return other[1] + other[3]


def meeting(piece, others, boxes, possible):
    """Those of the possible indexes whose polygons meet a piece, in order along its longer side."""
    box = frame(piece)
    found = []
    for k in possible:
        if overlap(box, boxes[k]) and meets(piece, others[k]):
            found.append((along_longer_side(box, boxes[k]), k))
    return [k for _, k in sorted(found)]


def rest_of_polygon(polygon, others):
    """A figure that covers a polygon without the inner points of the other polygons."""
    boxes = [frame(other) for other in others]
    pieces = []
    waiting = [(polygon, list(range(len(others))))]
    while waiting:
        piece, possible = waiting.pop()
        cutting = meeting(piece, others, boxes, possible)
        if not cutting:
            pieces.append(piece)
            continue
        # Where the middle one is cut out, each part meets about half of the remaining ones.
        middle = len(cutting) // 2
        remaining = cutting[:middle] + cutting[middle + 1:]
        for part in rest(piece, others[cutting[middle]]):
            waiting.append((part, remaining))
    return pieces


def rest_figures(first, second):
    """A figure that covers the first figure without the inner points of the second one's polygons."""
    pieces = []
    for k, others in enumerate(near(first, second)):
        pieces.extend(rest_of_polygon(first[k], [second[j] for j in others]))
    return pieces


def unite_figures(first, second):
    """A figure that covers what one of the two figures covers."""
    return first + rest_figures(second, first)


def lies_within(first, second):
    """Whether the second figure covers what the first one covers."""
    for k, others in enumerate(near(first, second)):
        if rest_of_polygon(first[k], [second[j] for j in others]):
            return False
    return True


def cover_same(first, second):
    """Whether two figures cover the same."""
    if cover_alike(first, second):
        return True
    return lies_within(first, second) and lies_within(second, first)


def holds(figure, p):
    """Whether one of the polygons holds the point."""
    for polygon in figure:
        if place(polygon, p) >= 0:
            return True
    return False


def bounds(figure):
    """The least and the greatest coordinates of the corners, as pairs; None for an empty figure."""
    if not figure:
        return None
    firsts = [first_of(corner) for polygon in figure for corner in polygon]
    seconds = [second_of(corner) for polygon in figure for corner in polygon]
    return ((least(firsts), least(seconds)), (greatest(firsts), greatest(seconds)))


def is_figure(polygons):
    """Whether no two polygons of a list meet."""
    for k, others in enumerate(near(polygons, polygons)):
        for j in others:
            if j > k and meets(polygons[k], polygons[j]):
                return False
    return True
