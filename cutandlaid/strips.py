"""Strips between two level lines, in which what two figures have there is matched by level slides."""

from cutandlaid.bars import gathered
from cutandlaid.clipping import cut
from cutandlaid.numbers import greatest, least, less, minus, over, plus, size_of, times, total
from cutandlaid.trapezoids import joined, paper_between, trapezoid_of, within, without_alike
from cutandlaid.wedges import Pairing, bars_of_both, taken_apart

# A strip is halved where more cuts than these, for each trapezoid in it, would be made at once.
PATIENCE = 8


def add_strip(paper, first, second, heights, most):
    """Add what leads slabs between two heights to other ones that are equal by "level"; whether that was done.

    It is not done where the paper would get more pairs than most, if that is not None.
    """
    waiting = [(first, second, heights[0], heights[1])]
    while waiting:
        if most is not None and len(paper) > most:
            return False
        here, there, bottom, top = waiting.pop()
        pairs = matched_pairs([trapezoid_of(slab) for slab in here], [trapezoid_of(slab) for slab in there])
        if pairs is None:
            # The trapezoids are wider at some of their heights, and fewer cuts do there.
            middle = over(plus(bottom, top), (2, 1))
            lower, upper = halved(here, middle)
            other_lower, other_upper = halved(there, middle)
            waiting.append((lower, other_lower, bottom, middle))
            waiting.append((upper, other_upper, middle, top))
        else:
            for item, other in pairs:
                paper.extend(paper_between(item.layers, other.layers))
    return True


def halved(slabs, height):
    """The lists of the parts of slabs below and above a height."""
    n, d = height
    parts = [cut(slab, (0, d, -n)) for slab in slabs]
    return ([lower for _, lower in parts], [upper for upper, _ in parts])


def matched_pairs(first, second):
    """Pairs of trapezoids of the same shapes that are made of those of two lists; None for too many cuts."""
    here, there, pairs = without_alike(first, second)
    here, there, more = without_alike(chained(here), chained(there))
    if not here and not there:
        return pairs + more
    exchanged_pairs = exchanged(here, there)
    if exchanged_pairs is not None:
        return pairs + more + exchanged_pairs
    # Those that are alike may be wide enough to be cut for the sake of the others.
    return exchanged(chained(first), chained(second))


def chained(items):
    """Trapezoids joined where the right edge of one has the slope of the left edge of another one."""
    rows = []
    for item in items:
        row = item
        before = place_of([other.right for other in rows], row.left)
        if before is not None:
            row = joined([rows.pop(before), row])
        behind = place_of([other.left for other in rows], row.right)
        if behind is not None:
            row = joined([row, rows.pop(behind)])
        rows.append(row)
    return rows


def place_of(slopes, slope):
    for k, other in enumerate(slopes):
        if other == slope:
            return k
    return None


def exchanged(first, second):
    """The pairs that are left when all trapezoids are taken apart and matched; None for too many cuts."""
    patience = PATIENCE * (len(first) + len(second))
    slope = common_slope(first + second)
    sides, bars = [], []
    for items in (first, second):
        wedges, turned_wedges, parts = taken_apart(items, slope)
        pairing = Pairing(wedges, turned_wedges)
        parts.extend(bars_of_both(pairing.pairs))
        if parts:
            bar = gathered(parts, slope, patience)
            if bar is None:
                return None
            bars.append(bar)
        sides.append(pairing.left)
    pairs = [pair for k in range(2) for pair in Pairing(sides[0][k], sides[1][k]).pairs]
    if bars:
        pairs.append((bars[0], bars[1]))
    return pairs


def common_slope(items):
    """The slope, of all edges of the trapezoids, to which their bars need be leaned least."""
    slopes = [item.left for item in items] + [item.right for item in items]
    weights = [least([item.low, item.high()]) for item in items]
    best, best_sum = None, None
    for slope in slopes:
        leans = [times(weights[k], distance(slope, items[k])) for k in range(len(items))]
        leaning = total(leans)
        if best is None or less(leaning, best_sum):
            best, best_sum = slope, leaning
    return best


def distance(slope, item):
    """How far a slope is from those between the slopes of the two edges."""
    low, high = least([item.left, item.right]), greatest([item.left, item.right])
    return size_of(minus(slope, within(low, slope, high)))
