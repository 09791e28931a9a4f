"""Piles of bars of one width and one slope, into which other bars are made, so that they can be compared."""

from math import isqrt

from cutandlaid.bars import by_slope, held, leaned, rounded_down, rounded_up
from cutandlaid.numbers import (greatest, least, less, minus, over, place_of_greatest, plus, ranks, size_of, times,
                                total)
from cutandlaid.points import point_of
from cutandlaid.trapezoids import (NOUGHT, Trapezoid, cut_layers, joined, paper_between, parted, parted_level,
                                   slid, without_alike)

# A bar is thin for a width of which its lower edge is not even one of so many parts.
THIN = 8
# How many of the greatest bars are asked for a width.
ASKED = 6
# More pieces than these are a reason to cut bars that need not be cut for the sake of the others.
MANY = 5000
# The part of one in which lengths and areas are told roughly.
ROUGH = 1099511627776


def flattened(bar, many):
    """The bar that equally high parts of a bar make side by side."""
    step = over(bar.height, (many, 1))
    parts, remaining = [], bar
    for _ in range(many - 1):
        part, remaining = parted_level(remaining, step)
        parts.append(part)
    return joined(parts + [remaining])


def heaped(bar, many):
    """The bar that equally wide parts of a bar make upon one another."""
    step = over(bar.low, (many, 1))
    layers, remaining = [], bar
    for k in range(many - 1):
        part, remaining = parted(remaining, bar.left, step)
        layers.extend(slid(part.layers, times((k, 1), times(bar.left, bar.height)), times((k, 1), bar.height)))
    up = (many - 1, 1)
    layers.extend(slid(remaining.layers, times(up, times(bar.left, bar.height)), times(up, bar.height)))
    return Trapezoid(bar.left, bar.left, step, times((many, 1), bar.height), layers)


def narrowed(bar, width):
    """The bar of a width, of which the given one is at most double, of three parts of the given one.

    The part above the line from the upper left corner of the new one to the lower right corner of the
    given one slides along this line, and what is then still too far to the right comes upon the rest.
    """
    if bar.low == width:
        return bar
    slope = bar.left
    height = over(times(bar.low, bar.height), width)
    below, above = cut_layers(bar.layers, point_of(bar.low, NOUGHT), point_of(times(slope, height), height))
    inside, outside = cut_layers(below, point_of(width, NOUGHT), point_of(plus(width, slope), (1, 1)))
    up = minus(height, bar.height)
    layers = (inside + slid(above, plus(minus(width, bar.low), times(slope, up)), up)
              + slid(outside, minus(times(slope, bar.height), width), bar.height))
    return Trapezoid(slope, slope, width, height, layers)


def of_width(bar, width, slope):
    """The bar of a width and a slope that is made of a bar."""
    wide = leaned(flattened(bar, rows_for(bar, width, slope)), slope)
    return narrowed(heaped(wide, rounded_down(over(wide.low, width))), width)


def rows_for(bar, width, slope):
    """Into how many equally high parts a bar is cut that these make a wide one that is leaned but little."""
    return max(1, rounded_up(over(width, bar.low)), isqrt(rounded_down(over(reach(bar, slope), bar.low))))


def reach(bar, slope):
    """How far the upper edge of a bar lies aside of where it is with another slope."""
    return times(size_of(minus(bar.left, slope)), bar.height)


def is_thin(bar, width):
    return less(times((THIN, 1), bar.low), width)


def pile_of(bars, width, slope):
    """Bars of one width and one slope that are made of bars.

    Where it takes many parts to make such a bar of a thin one, it is put into a part of another one.
    """
    fresh, done = [], []
    thin = [bar for bar in bars if is_thin(bar, width)]
    ordered = [bar for bar in bars if not is_thin(bar, width)] + widest_first(thin)
    for k, bar in enumerate(ordered):
        many = rows_in_pile(bar, fresh, len(bars) - k, width)
        if many is None:
            fresh.append(of_width(bar, width, slope))
            continue
        host, flat = fresh.pop(tallest(fresh)), flattened(bar, many)
        if less(flat.height, host.height):
            host, remaining = parted_level(host, flat.height)
            fresh.append(remaining)
        done.append(of_width(held(host, [flat]), width, slope))
    return fresh + done


def rows_in_pile(bar, pile, many_bars, width):
    """Into how many equally high parts a bar is cut for a rectangle of a pile to hold it; None if it is not to be.

    Each one of so many bars is to find as much of the pile.
    """
    if not pile or not is_thin(bar, width):
        return None
    share = over(total([host.height for host in pile]), (many_bars, 1))
    limit = least([share, pile[tallest(pile)].height])
    slope = pile[0].left
    many = rounded_up(greatest([over(bar.height, limit), over(reach(bar, slope), width)]))
    return many if many < rows_for(bar, width, slope) else None


def widest_first(bars):
    lows = ranks([bar.low for bar in bars])
    return [bars[k] for _, k in sorted([(-low, k) for k, low in enumerate(lows)])]


def tallest(pile):
    """The place of the first one of the bars with the greatest height."""
    return place_of_greatest([bar.height for bar in pile])


def best_slope(bars):
    """A slope to which bars need be leaned little: nought, if another one is not much better."""
    ordered = by_slope(bars)
    weights = [rough(bar.height) for bar in ordered]
    # That one for which the bars that lean more are as high together as those that lean less.
    place, sum_before = 0, weights[0]
    while 2 * sum_before < sum(weights):
        place += 1
        sum_before += weights[place]
    slope = ordered[place].left
    leans = [sum([rough(reach(bar, other)) for bar in bars]) for other in (NOUGHT, slope)]
    return slope if leans[0] > 4 * leans[1] else NOUGHT


def best_width(bars, slope):
    """A width to which bars can be brought with few cuts while they are leaned to a slope."""
    sizes = ranks([times(bar.low, bar.height) for bar in bars])
    ordered = sorted([(-size, k) for k, size in enumerate(sizes)])
    best, best_cuts = None, None
    for _, k in ordered[:ASKED]:
        bar = bars[k]
        many = max(1, isqrt(rounded_down(over(reach(bar, slope), bar.low))))
        width = times(bar.low, (many, 1))
        cuts = sum([cuts_to(other, width, slope) for other in bars])
        if best is None or cuts < best_cuts:
            best, best_cuts = width, cuts
    return best


def cuts_to(bar, width, slope):
    """About how many cuts bring a bar to a width and a slope."""
    if is_thin(bar, width):
        return 2 * THIN + rounded_up(over(reach(bar, slope), width))
    rows = rows_for(bar, width, slope)
    low = times(bar.low, (rows, 1))
    return rows + rounded_up(over(reach(bar, slope), times(low, (rows, 1)))) + rounded_up(over(low, width))


def effort(first, second):
    """About how many pieces a paper from bars to other bars gets, beyond those for each bar."""
    if not first:
        return 0
    slope = best_slope(first + second)
    width = best_width(first + second, slope)
    lengths = [sum([length_of_cuts(bar, width, slope) for bar in bars]) for bars in (first, second)]
    size = sum([rough(times(bar.low, bar.height)) for bar in first])
    # Cuts of the one kind that lie everywhere in all directions cross those of the other kind so often.
    return lengths[0] * lengths[1] // (size * ROUGH + 1)


def length_of_cuts(bar, width, slope):
    """About how long all edges are together of the pieces of a bar that is brought to a width, roughly.

    What has the slope to which all are leaned counts as if it were upright.
    """
    aside = reach(bar, slope)
    columns = plus((1, 1), plus(over(bar.low, width), over(aside, greatest([bar.low, width]))))
    sides = times(columns, plus(bar.height, aside))
    return rough(plus(sides, plus(bar.low, times((3, 1), width))))


def rough(a):
    """A number as a multiple of a small one, rounded down."""
    return a[0] * ROUGH // a[1]


def bars_paper(first, second):
    """A paper from bars to other bars that have the same area together."""
    here, there, pairs = without_alike(first, second)
    if is_too_narrow((here, there), (first, second)):
        here, there, pairs = first, second, []
    if here:
        slope = best_slope(here + there)
        width = best_width(here + there, slope)
        here, there, more = without_alike(pile_of(here, width, slope), pile_of(there, width, slope))
        return paper_of_pairs(pairs + more) + paper_between(heap_of(here), heap_of(there))
    return paper_of_pairs(pairs)


def paper_of_pairs(pairs):
    """The paper between trapezoids that are alike, two by two."""
    return [pair for item, other in pairs for pair in paper_between(item.layers, other.layers)]


def is_too_narrow(some, all_bars):
    """Whether it is better to match all bars, of two figures, than some of them that are narrow."""
    pieces = effort(some[0], some[1])
    return pieces > MANY and pieces > 4 * effort(all_bars[0], all_bars[1])


def heap_of(pile):
    """The layers of the bar that bars of one width and one slope make upon one another."""
    layers, place = [], NOUGHT
    for bar in pile:
        layers.extend(slid(bar.layers, times(bar.left, place), place))
        place = plus(place, bar.height)
    return layers
