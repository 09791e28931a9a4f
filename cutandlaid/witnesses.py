"""Witnesses: short proofs that two figures are not equal by a group."""

from cutandlaid.errors import OnEdge
from cutandlaid.figures import figure_area
from cutandlaid.sums import covers, edge_sums, level_at

# The groups for which a witness of a form can be told.
GROUPS_OF = {
    "area": ("level", "grid", "grid2", "grid4", "free", "free2", "free4"),
    "edges": ("level", "grid", "free"),
    "level": ("level",),
    "covers": ("grid", "grid2", "grid4"),
}


def is_witness(witness, first, second, group):
    """Whether a witness shows that two figures are not equal by a group."""
    form = witness[0]
    if group not in GROUPS_OF[form]:
        return False
    if form == "area":
        return figure_area(first) != figure_area(second)
    if form == "edges":
        return edge_sum(first, witness[1]) != edge_sum(second, witness[1])
    try:
        if form == "level":
            return level_at(first, witness[1]) != level_at(second, witness[1])
        return covers(first, witness[1], group) != covers(second, witness[1], group)
    except OnEdge:
        return False


def edge_sum(figure, direction):
    """The edge sum for one direction, nought where it is missing."""
    for other, amount in edge_sums(figure):
        if other == direction:
            return amount
    return (0, 1)
