"""Loops: the figure of all points around which loops go an odd number of times."""

from cutandlaid.numbers import ascending, less, over, plus, ranks
from cutandlaid.points import at_height, common_point, first_of, line_through, second_of
from cutandlaid.polygons import polygon_of


def odd_figure(loops):
    """A figure that covers the odd figure of the loops."""
    edges = rising_edges(loops)
    heights = cutting_heights(edges)
    figure = []
    # The areas between two lines that may go on upwards, each with the height at which it began.
    growing = {}
    for k in range(1, len(heights)):
        still = {}
        for pair in odd_pairs(edges, heights[k - 1], heights[k]):
            still[pair] = growing.get(pair, heights[k - 1])
        figure.extend([stretch(pair, growing[pair], heights[k - 1])
                       for pair in growing if pair not in still])
        growing = still
    figure.extend([stretch(pair, growing[pair], heights[-1]) for pair in growing])
    return figure


def rising_edges(loops):
    """The edges that are not level, as tuples of the line upwards and its two heights."""
    edges = []
    for loop in loops:
        for k in range(len(loop)):
            start, end = loop[k - 1], loop[k]
            low, high = second_of(start), second_of(end)
            if less(low, high):
                edges.append((line_through(start, end), low, high))
            elif less(high, low):
                edges.append((line_through(end, start), high, low))
    return edges


def cutting_heights(edges):
    """The heights, ascending, between which edges neither end nor cross one another."""
    heights = [low for _, low, _ in edges] + [high for _, _, high in edges]
    for k in range(len(edges)):
        line, low, high = edges[k]
        for j in range(k):
            other, bottom, top = edges[j]
            common = common_point(line, other)
            if common is not None:
                height = second_of(common)
                if strictly_between(low, height, high) and strictly_between(bottom, height, top):
                    heights.append(height)
    return ascending(heights)


def strictly_between(low, height, high):
    return less(low, height) and less(height, high)


def odd_pairs(edges, low, high):
    """The pairs of lines between which the points between two neighbouring heights are odd."""
    counts = {}
    for line, bottom, top in edges:
        if not less(low, bottom) and not less(top, high):
            counts[line] = counts.get(line, 0) + 1
    # Two edges along one another are as good as none.
    lines = [line for line in counts if counts[line] % 2 == 1]
    middle = over(plus(low, high), (2, 1))
    places = ranks([first_of(at_height(line, middle)) for line in lines])
    order = [line for _, line in sorted(zip(places, lines))]
    return [(order[j], order[j + 1]) for j in range(0, len(order), 2)]


def stretch(pair, low, high):
    """The polygon between two lines and two heights."""
    left, right = pair
    return polygon_of([at_height(left, low), at_height(right, low),
                       at_height(right, high), at_height(left, high)])
