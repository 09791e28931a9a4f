"""Assembling polygons that may be pieces of one polygon, and matching polygons as a whole.

Figures that were cut and laid again have edges that fit one another. Where they do, a paper is found
at once; the polygons that are left are for the ways that always lead to one.
"""

from cutandlaid.groups import TURNS, VECTORS, in_group
from cutandlaid.joining import joined_polygon
from cutandlaid.motions import STAY, moved_polygon, turned
from cutandlaid.points import difference
from cutandlaid.polygons import edges_of
from cutandlaid.sums import along
from cutandlaid.trapezoids import brought, paper_between

# With how many polygons that have a fitting edge one is compared.
TRIALS = 12


def matched_whole(first, second, group):
    """A paper between polygons that are equal by a group as a whole, and the figures of the others."""
    here, there = single_ones(first), single_ones(second)
    paper = []
    here, there = match_alike(here, there, group, paper)
    here, there = match_alike(assembled(here, group), assembled(there, group), group, paper)
    return (paper, originals(here), originals(there))


def single_ones(figure):
    """For each polygon the pair of it and of the layers of which it is made."""
    return [(polygon, [(polygon, STAY)]) for polygon in figure]


def originals(wholes):
    """The polygons in the places from which they were assembled."""
    return [moved_polygon(back, polygon) for _, layers in wholes for polygon, back in layers]


def match_alike(first, second, group, paper):
    """Add to a paper what leads polygons to equal ones, and return the others of both lists."""
    by_form = {}
    for whole in second:
        form, motion = normal_form(whole[0], group)
        by_form.setdefault(form, []).append((whole, motion))
    here = []
    for whole in first:
        form, motion = normal_form(whole[0], group)
        if by_form.get(form):
            other, other_motion = by_form[form].pop()
            paper.extend(paper_between(brought(whole[1], motion), brought(other[1], other_motion)))
        else:
            here.append(whole)
    return (here, [whole for form in by_form for whole, _ in by_form[form]])


def normal_form(polygon, group):
    """The polygon that all polygons have in common that are equal to a polygon by a group, and the motion to it."""
    forms = []
    for k in TURNS[group]:
        form = moved_polygon((k, (0, 0, 1)), polygon)
        slide = to_origin(form[0], group)
        forms.append((moved_polygon((0, slide), form), (k, slide)))
    return min(forms)


def to_origin(p, group):
    """The vector of a group that brings a point as near to (0, 0) as it can, but not to its left or below it."""
    x, y, w = p
    if VECTORS[group] == "whole":
        return (-(x // w), -(y // w), 1)
    if VECTORS[group] == "level":
        return difference((0, y, w), p)
    return difference((0, 0, 1), p)


def assembled(wholes, group):
    """Polygons that are made of others which are joined where edges fit by a motion of the group."""
    assembly = Assembly(wholes, group)
    # What one line cut through at once is joined at once; so the next line is found whole again.
    while assembly.joins():
        pass
    return [whole for whole in assembly.wholes if whole is not None]


class Assembly:
    """Polygons, with the layers of which they are made, that are joined."""

    def __init__(self, wholes, group):
        self.group = group
        # Those that were joined to others are None.
        self.wholes = []
        # The pairs of a number and a corner where an edge begins, by its vector.
        self.by_edge = {}
        # The numbers of the polygons that have edges of a direction, either way.
        self.by_direction = {}
        for polygon, layers in wholes:
            self.put(polygon, layers)

    def put(self, polygon, layers):
        """Take up a polygon; its number."""
        number = len(self.wholes)
        self.wholes.append((polygon, layers))
        for start, end in edges_of(polygon):
            vector = difference(end, start)
            self.by_edge.setdefault(vector, []).append((number, start))
            self.by_direction.setdefault(direction_of(vector), []).append(number)
        return number

    def joins(self):
        """Join what can be joined, one direction of edges after the other; whether anything was."""
        before = len(self.wholes)
        for direction in list(self.by_direction):
            waiting = self.by_direction[direction][::-1]
            while waiting:
                number = waiting.pop()
                found = None if self.wholes[number] is None else self.partner(number, direction)
                if found is not None:
                    waiting.append(self.join(number, found))
        return len(self.wholes) > before

    def join(self, number, found):
        """Join two polygons; the number of the new one."""
        other, motion, polygon = found
        layers = self.wholes[number][1] + brought(self.wholes[other][1], motion)
        self.wholes[number], self.wholes[other] = None, None
        return self.put(polygon, layers)

    def partner(self, number, direction):
        """The number of a polygon that fits one along a direction, the motion of it, and both joined; or None."""
        polygon = self.wholes[number][0]
        for start, end in edges_of(polygon):
            if direction_of(difference(end, start)) == direction:
                for other, motion in self.fitting_ones(number, start, end):
                    whole = joined_polygon(polygon, moved_polygon(motion, self.wholes[other][0]), start, end)
                    if whole is not None:
                        return (other, motion, whole)
        return None

    def fitting_ones(self, number, start, end):
        """The numbers of some polygons that a motion brings to the other side of an edge, and the motions."""
        found = []
        for turns in TURNS[self.group]:
            vector = turned(-turns % 4, difference(start, end))
            for other, corner in self.by_edge.get(vector, []):
                motion = (turns, difference(end, turned(turns, corner)))
                if other != number and self.wholes[other] is not None and in_group(motion, self.group):
                    found.append((other, motion))
        return found[:TRIALS]


def direction_of(vector):
    return along(vector)[0]
