"""Deciding whether two figures are equal by a group of motions."""

from cutandlaid.differences import find_witness
from cutandlaid.freepapers import free_paper, half_paper, paper_by_area
from cutandlaid.gridpapers import grid_paper
from cutandlaid.groups import GROUPS, lies_in
from cutandlaid.levelpapers import level_paper


def decide(first, second, group):
    """The pair of "paper" and a right paper, or of "witness" and a witness that there is none."""
    witness = find_witness(first, second, group)
    if witness is not None:
        return ("witness", witness)
    if group == "level":
        return ("paper", level_paper(first, second))
    if group == "free":
        return ("paper", free_paper(first, second))
    if group == "free2":
        return ("paper", half_paper(first, second))
    if group == "free4":
        return ("paper", paper_by_area(first, second, ("free", "free2", "free4")))
    return ("paper", grid_paper(first, second, group))


def equal_groups(first, second):
    """The groups by which two figures are equal, in their order."""
    equal = []
    for group in GROUPS:
        # What is equal by a group is equal by each one in which this one lies.
        if any([lies_in(other, group) for other in equal]) or find_witness(first, second, group) is None:
            equal.append(group)
    return equal


def least_groups(first, second):
    """Those of the groups by which two figures are equal in which no other one of them lies."""
    equal = equal_groups(first, second)
    return [group for group in equal
            if not any([lies_in(other, group) for other in equal if other != group])]
