"""Trapezoids that are made of layers, and how they are cut and put together.

A trapezoid stands on the level line through (0, 0), its lower left corner there; its lower or its upper
edge may be a point. It is put together of layers, each with the motion that leads it back to a figure.
"""

from cutandlaid.clipping import cut, meet, meets
from cutandlaid.frames import near
from cutandlaid.motions import STAY, follow, moved_polygon, undo
from cutandlaid.numbers import greatest, least, less, minus, over, plus, times
from cutandlaid.points import difference, first_of, line_through, point_of, second_of

NOUGHT = (0, 1)
ORIGIN = (0, 0, 1)
# So many pairs of layers for each layer are many.
CROWDED = 8


class Trapezoid:
    """The slopes of the left and the right edge, the length of the lower edge, the height, the layers."""

    def __init__(self, left, right, low, height, layers):
        self.left = left
        self.right = right
        self.low = low
        self.height = height
        self.layers = layers

    def high(self):
        """The length of the upper edge."""
        return plus(self.low, times(minus(self.right, self.left), self.height))

    def shape(self):
        """What two trapezoids have in common that hold the same points."""
        return (self.left, self.right, self.low, self.height)


def brought(layers, motion):
    """Layers that are moved by a motion, so that they still lead back to where they came from."""
    back = undo(motion)
    return [(moved_polygon(motion, polygon), follow(back, home)) for polygon, home in layers]


def slid(layers, across, upwards):
    """Layers that are slid by two numbers."""
    if across == NOUGHT and upwards == NOUGHT:
        return layers
    return brought(layers, (0, point_of(across, upwards)))


def rectangle_of(width, height):
    """The rectangle of two lengths, as a trapezoid of one layer that is where it was."""
    corners = (ORIGIN, point_of(width, NOUGHT), point_of(width, height), point_of(NOUGHT, height))
    return Trapezoid(NOUGHT, NOUGHT, width, height, [(corners, STAY)])


def trapezoid_of(slab):
    """The trapezoid that is made of a polygon with corners at two heights."""
    heights = [second_of(corner) for corner in slab]
    bottom, top = least(heights), greatest(heights)
    lows, highs = corners_at(slab, bottom), corners_at(slab, top)
    height = minus(top, bottom)
    left = over(minus(first_of(highs[0]), first_of(lows[0])), height)
    right = over(minus(first_of(highs[-1]), first_of(lows[-1])), height)
    low = minus(first_of(lows[-1]), first_of(lows[0]))
    away = (0, difference(ORIGIN, lows[0]))
    return Trapezoid(left, right, low, height, [(moved_polygon(away, slab), (0, lows[0]))])


def corners_at(slab, height):
    """The one or two corners at a height, the left one first."""
    corners = [corner for corner in slab if second_of(corner) == height]
    if len(corners) == 2 and less(first_of(corners[1]), first_of(corners[0])):
        return [corners[1], corners[0]]
    return corners


def cut_layers(layers, start, end):
    """The lists of the parts of layers on the left and on the right of the line through two points."""
    line = line_through(start, end)
    sides = ([], [])
    for polygon, motion in layers:
        for k, part in enumerate(cut(polygon, line)):
            if part is not None:
                sides[k].append((part, motion))
    return sides


def parted(item, slope, place):
    """The two trapezoids on both sides of a line of a slope that begins at a place of the lower edge."""
    start = point_of(place, NOUGHT)
    end = point_of(plus(place, times(slope, item.height)), item.height)
    here, there = cut_layers(item.layers, start, end)
    return (Trapezoid(item.left, slope, place, item.height, here),
            Trapezoid(slope, item.right, minus(item.low, place), item.height,
                      slid(there, minus(NOUGHT, place), NOUGHT)))


def parted_level(item, height):
    """The lower and the upper one of the two trapezoids between which there is a level line."""
    above, below = cut_layers(item.layers, point_of(NOUGHT, height), point_of((1, 1), height))
    back = minus(NOUGHT, times(item.left, height))
    middle = plus(item.low, times(minus(item.right, item.left), height))
    upper = slid(above, back, minus(NOUGHT, height))
    return (Trapezoid(item.left, item.right, item.low, height, below),
            Trapezoid(item.left, item.right, middle, minus(item.height, height), upper))


def joined(items):
    """The trapezoid that trapezoids of the same height make side by side, in order."""
    layers, place = [], NOUGHT
    for item in items:
        layers.extend(slid(item.layers, place, NOUGHT))
        place = plus(place, item.low)
    return Trapezoid(items[0].left, items[-1].right, place, items[0].height, layers)


def turned_half(item):
    """The trapezoid after half a turn, upon its upper edge."""
    corner = point_of(plus(item.low, times(item.right, item.height)), item.height)
    return Trapezoid(item.right, item.left, item.high(), item.height, brought(item.layers, (2, corner)))


def without_alike(first, second):
    """The trapezoids of two lists that have none of the same shape, and the pairs of the others."""
    by_shape = {}
    for item in second:
        by_shape.setdefault(item.shape(), []).append(item)
    here, pairs = [], []
    for item in first:
        alike = by_shape.get(item.shape())
        if alike:
            pairs.append((item, alike.pop()))
        else:
            here.append(item)
    return (here, [item for shape in by_shape for item in by_shape[shape]], pairs)


def within(low, number, high):
    """The number between two others, both included, that is nearest to a number."""
    if less(number, low):
        return low
    if less(high, number):
        return high
    return number


def paper_between(first, second):
    """The paper that leads what layers are made of to what other layers in the same places are made of."""
    neighbours = near([polygon for polygon, _ in first], [polygon for polygon, _ in second])
    # Where narrow ones lie aslant, most of those that may meet do not, and to see that is quicker than to cut.
    crowded = sum([len(others) for others in neighbours]) > CROWDED * (len(first) + len(second))
    paper = []
    for k, others in enumerate(neighbours):
        polygon, back = first[k]
        forth = undo(back)
        for j in others:
            if crowded and not meets(polygon, second[j][0]):
                continue
            common = meet(polygon, second[j][0])
            if common is not None:
                paper.append((moved_polygon(back, common), follow(forth, second[j][1])))
    return paper
