"""Matching layers that fit: those that have a corner in common, with the edges on both sides of it.

Figures that are cut and laid again have many such layers, and where these are matched first, the
pieces stay few. Layers that have nothing to do with one another have hardly any.
"""

from cutandlaid.clipping import edge_lines, rest
from cutandlaid.matching import shared
from cutandlaid.polygons import edges_of, place

# A corner that more layers of one list have than these does not tell which ones belong together.
RARE = 6
# With how many layers of the other list one is compared.
TRIALS = 12
# How many of the commonest polygons of a list are tried as those that cover two neighbours.
COMMON = 4


class Fitting:
    """What is left of two lists of layers while those that fit are matched."""

    def __init__(self, first, second, matching):
        self.matching = matching
        # Triples of the number of the list, 0 or 1, the polygon and the motion; None for those matched.
        self.layers = []
        # For each list the numbers of its layers, as the keys of dicts, by corner, by edge, by polygon.
        self.by_corner = ({}, {})
        self.by_edge = ({}, {})
        self.by_polygon = ({}, {})
        self.waiting = []
        # What fits by chance could cut the layers smaller and smaller; so there is an end to it.
        self.credit = 4 * (len(first) + len(second))
        for polygon, motion in first:
            self.put(0, polygon, motion)
        for polygon, motion in second:
            self.put(1, polygon, motion)

    def tables(self, which, polygon):
        """The pairs of a dict in which a layer stands and the keys under which it stands there."""
        return [(self.by_corner[which], corners_of(polygon)), (self.by_edge[which], edges_of(polygon)),
                (self.by_polygon[which], [polygon])]

    def put(self, which, polygon, motion):
        number = len(self.layers)
        self.layers.append((which, polygon, motion))
        self.waiting.append(number)
        for table, keys in self.tables(which, polygon):
            for key in keys:
                row = table.setdefault(key, {})
                row[number] = True

    def take_out(self, number):
        which, polygon, _ = self.layers[number]
        self.layers[number] = None
        for table, keys in self.tables(which, polygon):
            for key in keys:
                del table[key][number]
                if not table[key]:
                    del table[key]

    def fit(self, number, other, found):
        """Match what two layers share, and put back what is left of them."""
        common, left, left_of_other = found
        which, _, motion = self.layers[number]
        other_motion = self.layers[other][2]
        self.matching.pair(common, which, motion, other_motion)
        self.take_out(number)
        self.take_out(other)
        for polygon in left:
            self.put(which, polygon, motion)
        for polygon in left_of_other:
            self.put(1 - which, polygon, other_motion)
        self.credit -= 1

    def run(self):
        """Match all layers that fit."""
        self.fit_corners()
        commonest = [by_number(table)[:COMMON] for table in self.by_polygon]
        number = 0
        while number < len(self.layers) and self.credit > 0:
            if self.layers[number] is not None:
                self.fit_beside(number, commonest)
                self.fit_corners()
            number += 1

    def fit_corners(self):
        """Match layers that share a corner that few layers have."""
        while self.waiting and self.credit > 0:
            number = self.waiting.pop()
            if self.layers[number] is not None:
                self.fit_corner(number)

    def fit_corner(self, number):
        """Match a layer with that one of the other list that fits it with the least left over."""
        which, polygon, _ = self.layers[number]
        best = None
        for other in self.fitting(which, polygon):
            found = shared(polygon, self.layers[other][1])
            if found is not None:
                waste = len(found[1]) + len(found[2])
                if best is None or waste < best[0]:
                    best = (waste, other, found)
        if best is not None:
            self.fit(number, best[1], best[2])

    def fitting(self, which, polygon):
        """The numbers of some layers of the other list that may fit a polygon of a list."""
        alike = self.layer_with(1 - which, polygon)
        if alike is not None:
            return [alike]
        numbers = {}
        for corner in corners_of(polygon):
            row = self.by_corner[1 - which].get(corner, {})
            if len(row) <= RARE and len(self.by_corner[which].get(corner, {})) <= RARE:
                for number in row:
                    numbers[number] = True
        return list(numbers)[:TRIALS]

    def layer_with(self, which, polygon):
        """The number of a layer of a list with this very polygon, or None."""
        return first_key(self.by_polygon[which].get(polygon, {}))

    def fit_beside(self, number, commonest):
        """Match a layer that has a neighbour with one of the other list that covers both."""
        which, polygon, _ = self.layers[number]
        for beside in self.beside(which, polygon):
            for whole in commonest[1 - which]:
                other = self.layer_with(1 - which, whole)
                if other is not None and covers_both(whole, polygon, beside):
                    left = rest(whole, polygon)
                    if len(left) <= 2:
                        self.fit(number, other, (polygon, [], left))
                        return

    def beside(self, which, polygon):
        """For each edge of a polygon some polygon of the same list that has it from the other side."""
        numbers = [first_key(self.by_edge[which].get((end, start), {})) for start, end in edges_of(polygon)]
        return [self.layers[number][1] for number in numbers if number is not None]

    def left(self, which):
        """The layers that are left of a list."""
        layers = [layer for layer in self.layers if layer is not None]
        return [(polygon, motion) for number, polygon, motion in layers if number == which]


def corners_of(polygon):
    """The corners, each as a tuple with the lines of the edges that lead to it and from it."""
    lines = edge_lines(polygon)
    return [(polygon[k], lines[k], lines[k + 1 - len(lines)]) for k in range(len(polygon))]


def by_number(table):
    """The keys of a dict of dicts, those with the most entries first."""
    return sorted(table, key=lambda key: -len(table[key]))


def covers_both(whole, polygon, other):
    """Whether a polygon covers all of two others."""
    return all([place(whole, corner) >= 0 for corner in polygon + other])


def first_key(table):
    """The key that was put into a dict first, None if it is empty."""
    for key in table:
        return key
    return None
