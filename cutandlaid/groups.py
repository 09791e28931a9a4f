"""The seven groups of motions, by their names."""

GROUPS = ("level", "grid", "grid2", "grid4", "free", "free2", "free4")

# The numbers of quarter turns that a group has.
TURNS = {
    "level": (0,), "grid": (0,), "grid2": (0, 2), "grid4": (0, 1, 2, 3),
    "free": (0,), "free2": (0, 2), "free4": (0, 1, 2, 3),
}
# The vectors that a group has: level ones, those of integers, or any.
VECTORS = {
    "level": "level", "grid": "whole", "grid2": "whole", "grid4": "whole",
    "free": "any", "free2": "any", "free4": "any",
}


def in_group(motion, group):
    """Whether a motion is one of the group."""
    k, (_, y, w) = motion
    if k not in TURNS[group]:
        return False
    if VECTORS[group] == "level":
        return y == 0
    return VECTORS[group] == "any" or w == 1


def lies_in(group, other):
    """Whether each motion of the first group is a motion of the other one."""
    if VECTORS[other] not in (VECTORS[group], "any"):
        return False
    return all([k in TURNS[other] for k in TURNS[group]])
