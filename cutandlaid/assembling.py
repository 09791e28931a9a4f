"""Assembling polygons that may be pieces of one polygon, and matching polygons as a whole.

Figures that were cut and laid again have edges that fit one another. Where they do, a paper is found
at once; the polygons that are left are for the ways that always lead to one.
"""

from cutandlaid.groups import TURNS, VECTORS, in_group
from cutandlaid.joining import joined_polygon
from cutandlaid.motions import STAY, moved_polygon, turned
from cutandlaid.points import difference
from cutandlaid.polygons import edges_of
from cutandlaid.trapezoids import brought, paper_between

# With how many polygons that have a fitting edge one is compared.
TRIALS = 12


def matched_whole(first, second, group):
    """A paper between polygons that are equal by a group as a whole, and the figures of the others."""
    here, there = single_ones(first), single_ones(second)
    paper = []
    here, there = match_alike(here, there, group, paper)
    here, there = match_alike(assembled(here, group), assembled(there, group), group, paper)
    return (paper, originals(here), originals(there))


def single_ones(figure):
    """For each polygon the pair of it and of the layers of which it is made."""
    return [(polygon, [(polygon, STAY)]) for polygon in figure]


def originals(wholes):
    """The polygons in the places from which they were assembled."""
    return [moved_polygon(back, polygon) for _, layers in wholes for polygon, back in layers]


def match_alike(first, second, group, paper):
    """Add to a paper what leads polygons to equal ones, and return the others of both lists."""
    by_form = {}
    for whole in second:
        form, motion = normal_form(whole[0], group)
        by_form.setdefault(form, []).append((whole, motion))
    here = []
    for whole in first:
        form, motion = normal_form(whole[0], group)
        if by_form.get(form):
            other, other_motion = by_form[form].pop()
            paper.extend(paper_between(brought(whole[1], motion), brought(other[1], other_motion)))
        else:
            here.append(whole)
    return (here, [whole for form in by_form for whole, _ in by_form[form]])


def normal_form(polygon, group):
    """The polygon that all polygons have in common that are equal to a polygon by a group, and the motion to it."""
    forms = []
    for k in TURNS[group]:
        form = moved_polygon((k, (0, 0, 1)), polygon)
        slide = to_origin(form[0], group)
        forms.append((moved_polygon((0, slide), form), (k, slide)))
    return min(forms)


def to_origin(p, group):
    """The vector of a group that brings a point as near to (0, 0) as it can, but not to its left or below it."""
    x, y, w = p
    if VECTORS[group] == "whole":
        return (-(x // w), -(y // w), 1)
    if VECTORS[group] == "level":
        return difference((0, y, w), p)
    return difference((0, 0, 1), p)


def assembled(wholes, group):
    """Polygons that are made of others which are joined where edges fit by a motion of the group."""
    joined = list(wholes)
    by_edge = {}
    for k, (polygon, _) in enumerate(joined):
        list_edges(k, polygon, by_edge)
    waiting = list(range(len(joined)))[::-1]
    while waiting:
        k = waiting.pop()
        if joined[k] is None:
            continue
        found = partner(k, joined, by_edge, group)
        if found is not None:
            j, motion, polygon = found
            layers = joined[k][1] + brought(joined[j][1], motion)
            joined[k], joined[j] = None, None
            list_edges(len(joined), polygon, by_edge)
            waiting.append(len(joined))
            joined.append((polygon, layers))
    return [whole for whole in joined if whole is not None]


def list_edges(k, polygon, by_edge):
    """Put the number of a polygon, with each of its edges, under the vector of the edge."""
    for start, end in edges_of(polygon):
        by_edge.setdefault(difference(end, start), []).append((k, start))


def partner(k, joined, by_edge, group):
    """The number of a polygon that fits polygon k, the motion that brings it there, and both joined; or None."""
    polygon = joined[k][0]
    for start, end in edges_of(polygon):
        for j, motion in fitting(k, start, end, joined, by_edge, group):
            whole = joined_polygon(polygon, moved_polygon(motion, joined[j][0]), start, end)
            if whole is not None:
                return (j, motion, whole)
    return None


def fitting(k, start, end, joined, by_edge, group):
    """The numbers of some polygons that a motion brings to the other side of an edge of polygon k, and the motions."""
    found = []
    for turns in TURNS[group]:
        vector = turned(-turns % 4, difference(start, end))
        for j, corner in by_edge.get(vector, []):
            motion = (turns, difference(end, turned(turns, corner)))
            if j != k and joined[j] is not None and in_group(motion, group):
                found.append((j, motion))
    return found[:TRIALS]
