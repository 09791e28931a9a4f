"""Bars: trapezoids whose left and right edges have the same slope, and how they are made into other bars."""

from cutandlaid.numbers import (greatest, least, less, minus, over, place_of_greatest, plus, ranks, size_of, times,
                                total)
from cutandlaid.points import point_of
from cutandlaid.trapezoids import NOUGHT, Trapezoid, cut_layers, joined, parted, slid


def leaned(bar, slope):
    """The bar with the same lower edge and another slope, made of parts of a bar that are slid level."""
    lean = times(minus(bar.left, slope), bar.height)
    # Seen along the new slope, the old bar reaches over so many bars of the new slope side by side.
    first = min(0, rounded_down(over(lean, bar.low)))
    last = max(0, rounded_up(over(lean, bar.low))) + 1
    layers, remaining = [], bar.layers
    for k in range(first + 1, last):
        place = times((k, 1), bar.low)
        start = point_of(place, NOUGHT)
        here, remaining = cut_layers(remaining, start, point_of(plus(place, times(slope, bar.height)), bar.height))
        layers.extend(slid(here, times((1 - k, 1), bar.low), NOUGHT))
    layers.extend(slid(remaining, times((1 - last, 1), bar.low), NOUGHT))
    return Trapezoid(slope, slope, bar.low, bar.height, layers)


def rounded_down(a):
    return a[0] // a[1]


def rounded_up(a):
    return -(-a[0] // a[1])


def can_hold(host, bars):
    """Whether bars can be put into a bar of the same height, each between two parts of it."""
    slopes = [host.left] + [bar.left for bar in bars]
    lean = times(minus(greatest(slopes), least(slopes)), host.height)
    return not less(host.low, lean)


def held(host, bars):
    """The bar that a bar makes with others that it can hold; it has its slope.

    From its lower left corner lines with the greater slopes cut it like a fan, and from its lower right
    corner those with the lesser slopes, and along each line a bar is put between.
    """
    ordered = by_slope(bars)
    before, rest, behind = [], host, []
    for bar in ordered:
        if less(host.left, bar.left):
            if less(rest.left, bar.left):
                wedge, rest = parted(rest, bar.left, NOUGHT)
                before.append(wedge)
            before.append(bar)
    for bar in ordered[::-1]:
        if not less(host.left, bar.left):
            if less(bar.left, rest.right):
                rest, wedge = parted(rest, bar.left, rest.low)
                behind.append(wedge)
            behind.append(bar)
    return joined(before + [rest] + behind[::-1])


def by_slope(bars):
    """Bars in ascending order of their slopes."""
    places = ranks([bar.left for bar in bars])
    return [bars[k] for _, k in sorted([(place, k) for k, place in enumerate(places)])]


def leaning_cuts(bar, slope):
    """About how many cuts it takes to lean a bar."""
    return rounded_up(over(times(size_of(minus(bar.left, slope)), bar.height), bar.low))


def joined_alike(bars):
    """Bars of one height in which those with equal slopes are joined."""
    rows = {}
    for bar in bars:
        rows.setdefault(bar.left, []).append(bar)
    return [joined(rows[slope]) for slope in rows]


def gathered(bars, slope, patience):
    """One bar with a slope that is made of bars of one height; None if it takes more cuts than patience allows."""
    rows = joined_alike(bars)
    host = rows.pop(place_of_greatest([bar.low for bar in rows]))
    if can_hold(host, rows):
        cuts = len(rows)
    else:
        cuts = sum([leaning_cuts(bar, host.left) for bar in rows])
    whole = Trapezoid(host.left, host.left, total([bar.low for bar in bars]), host.height, [])
    if cuts + leaning_cuts(whole, slope) > patience:
        return None
    if can_hold(host, rows):
        return leaned(held(host, rows), slope)
    return leaned(joined([host] + [leaned(bar, host.left) for bar in rows]), slope)
