"""Wedges of two figures in pairs that are alike: across the figures, or within one, where they make bars."""

from cutandlaid.numbers import over
from cutandlaid.trapezoids import NOUGHT, without_alike
from cutandlaid.wedges import Pairing, bars_of_both, lowered, taken_apart, turned_back


def paired_wedges(first, second, opened):
    """Pairs of wedges, of which those of two figures are made that are told by trapezoids, and the bars of both.

    The bars are a pair of lists. Where it is asked for, bars are taken out of the pairs, too.
    """
    apart = (taken_apart(first, NOUGHT), taken_apart(second, NOUGHT))
    pairs, wedges, bars = alike_ones(apart)
    # What is left is paired across the figures first, or within each of them, whichever gives less.
    ways = [across_and_within(wedges), within_and_across(wedges)]
    more, more_bars = min(ways, key=many_bars)
    pairs = (pairs[0] + more[0], pairs[1] + more[1])
    bars = (bars[0] + more_bars[0], bars[1] + more_bars[1])
    if opened:
        pairs, more_bars = opened_pairs(pairs)
        bars = (bars[0] + more_bars[0], bars[1] + more_bars[1])
    return (pairs[0] + pairs[1], bars)


def many_bars(way):
    return len(way[1][0]) + len(way[1][1])


def alike_ones(apart):
    """The pairs of wedges, upward and turned ones, that are alike as they are; the others, and the bars, of both."""
    (up, down, bars), (other_up, other_down, other_bars) = apart
    up, other_up, pairs = without_alike(up, other_up)
    down, other_down, turned_pairs = without_alike(down, other_down)
    up, down, own = without_alike(up, down)
    other_up, other_down, other_own = without_alike(other_up, other_down)
    bars = (bars + bars_of_both(own), other_bars + bars_of_both(other_own))
    return ((pairs, turned_pairs), ((up, down), (other_up, other_down)), bars)


def across(wedges):
    """Pair the upward and the turned wedges of two figures; the pairs, what is left and the bars of both."""
    upward, downward = [Pairing(wedges[0][k], wedges[1][k]) for k in range(2)]
    left = [(upward.left[k], downward.left[k]) for k in range(2)]
    bars = [upward.bars[k] + turned_back(downward.bars[k]) for k in range(2)]
    return ((upward.pairs, downward.pairs), left, bars)


def within(wedges):
    """Make bars of the upward and the turned wedges of one figure; what is left, and the bars."""
    pairing = Pairing(wedges[0], wedges[1])
    return (pairing.left, bars_of_both(pairing.pairs) + pairing.bars[0] + turned_back(pairing.bars[1]))


def across_and_within(wedges):
    pairs, left, bars = across(wedges)
    # What is left goes over the same slopes upwards and downwards, so that all of it makes bars.
    return (pairs, [bars[k] + within(left[k])[1] for k in range(2)])


def within_and_across(wedges):
    left, bars = [], []
    for k in range(2):
        own_left, own_bars = within(wedges[k])
        left.append(own_left)
        bars.append(own_bars)
    pairs, _, more = across(left)
    return (pairs, [bars[k] + more[k] for k in range(2)])


def opened_pairs(pairs):
    """The pairs with wedges half as high, and the bars of both figures that are left over then."""
    lower = ([], [])
    bars = ([], [])
    for kind in range(2):
        for pair in pairs[kind]:
            halves = [lowered(wedge, over(wedge.height, (2, 1))) for wedge in pair]
            for k in range(2):
                lower[kind].append((halves[0][k], halves[1][k]))
                bars[k].extend(turned_back([halves[k][2]]) if kind == 1 else [halves[k][2]])
    return (lower, bars)
