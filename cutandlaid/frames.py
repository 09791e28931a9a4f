"""Upright frames around polygons, in whole steps, to find quickly which polygons may meet."""

STEPS = 4294967296


def frame(polygon):
    """A tuple of integers (left, low, right, high), in steps, between which the polygon lies."""
    lefts = [x * STEPS // w for x, _, w in polygon]
    lows = [y * STEPS // w for _, y, w in polygon]
    rights = [-(-x * STEPS // w) for x, _, w in polygon]
    highs = [-(-y * STEPS // w) for _, y, w in polygon]
    return (min(lefts), min(lows), max(rights), max(highs))


def near(first, second):
    """For each polygon of the first list the indexes of those of the second one that may meet it."""
    here = [frame(polygon) for polygon in first]
    there = [frame(polygon) for polygon in second]
    if are_rather_level(here + there):
        # Level strips would all be open at once from left to right, so they are gone through upwards.
        here, there = [turned_over(box) for box in here], [turned_over(box) for box in there]
    events = sorted([(box[0], 0, k) for k, box in enumerate(here)]
                    + [(box[0], 1, k) for k, box in enumerate(there)])
    found = [[] for _ in first]
    # From left to right, only the frames that reach beyond the present place are kept open.
    open_here, open_there = [], []
    for left, which, k in events:
        if which == 0:
            open_there = [j for j in open_there if there[j][2] > left]
            found[k].extend([j for j in open_there if overlap_upwards(here[k], there[j])])
            open_here.append(k)
        else:
            open_here = [j for j in open_here if here[j][2] > left]
            for j in open_here:
                if overlap_upwards(here[j], there[k]):
                    found[j].append(k)
            open_there.append(k)
    return [sorted(row) for row in found]


def are_rather_level(boxes):
    """Whether frames, beside the frame of all, are wider than they are high, taken together."""
    if not boxes:
        return False
    wide = max([box[2] for box in boxes]) - min([box[0] for box in boxes])
    tall = max([box[3] for box in boxes]) - min([box[1] for box in boxes])
    return sum([box[2] - box[0] for box in boxes]) * tall > sum([box[3] - box[1] for box in boxes]) * wide


def turned_over(box):
    """A frame with its two directions changed for one another."""
    return (box[1], box[0], box[3], box[2])


def overlap_upwards(box, other):
    """Whether two frames have heights in common, more than one."""
    return box[1] < other[3] and other[1] < box[3]


def overlap(box, other):
    """Whether two frames have inner points in common."""
    return box[0] < other[2] and other[0] < box[2] and overlap_upwards(box, other)
