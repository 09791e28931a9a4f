"""Papers for the three grid groups: figures are folded into the field of the group and matched there."""

from cutandlaid.assembling import matched_whole
from cutandlaid.borders import border_difference
from cutandlaid.clipping import cut
from cutandlaid.figures import figure_area
from cutandlaid.layers import match
from cutandlaid.motions import follow, moved_polygon, undo
from cutandlaid.papers import pieces_of
from cutandlaid.shortening import shortened

# For each grid group how many of its fields stand side by side in one step, and how many upon another.
FIELDS = {"grid": (1, 1), "grid2": (1, 2), "grid4": (2, 2)}
# The fields as polygons.
WHOLE = {
    "grid": ((0, 0, 1), (1, 0, 1), (1, 1, 1), (0, 1, 1)),
    "grid2": ((0, 0, 1), (1, 0, 1), (2, 1, 2), (0, 1, 2)),
    "grid4": ((0, 0, 1), (1, 0, 2), (1, 1, 2), (0, 1, 2)),
}


def fold(figure, group):
    """The folding of a figure by a grid group: layers within the field, with the motions that lead back."""
    layers = []
    for polygon in figure:
        for row, strip in parts_between(polygon, 1, FIELDS[group][1]):
            fold_row(strip, row, group, layers)
    return layers


def fold_row(strip, row, group, layers):
    """Add the layers of a part of a polygon between the two level lines of a row of squares."""
    across = FIELDS[group][0]
    first, last = whole_squares(strip, row, group)
    ends = [strip]
    if first < last:
        # Between these columns the part covers all squares, which need not be cut out.
        layers.extend([(WHOLE[group], undo(to_field(column, row, group))) for column in range(first, last)])
        ends = [cut(strip, (across, 0, -last))[0], cut(strip, (across, 0, -first))[1]]
    for end in ends:
        if end is not None:
            for column, piece in parts_between(end, 0, across):
                motion = to_field(column, row, group)
                layers.append((moved_polygon(motion, piece), undo(motion)))


def parts_between(polygon, axis, many):
    """The parts of a polygon between lines at a coordinate's multiples of 1 / many, each with its number."""
    first = min([many * corner[axis] // corner[2] for corner in polygon])
    last = max([-(-many * corner[axis] // corner[2]) for corner in polygon])
    parts, remaining = [], polygon
    for k in range(first, last - 1):
        line = (many, 0, -k - 1) if axis == 0 else (0, many, -k - 1)
        remaining, part = cut(remaining, line)
        parts.append((k, part))
    parts.append((last - 1, remaining))
    return parts


def whole_squares(strip, row, group):
    """The first column whose square a part in a row covers, and the one behind the last such column."""
    across, upwards = FIELDS[group]
    first, last = [], []
    for line in (row, row + 1):
        border = [corner for corner in strip if corner[1] * upwards == line * corner[2]]
        if not border:
            return (0, 0)
        first.append(min([-(-across * corner[0] // corner[2]) for corner in border]))
        last.append(max([across * corner[0] // corner[2] for corner in border]))
    return (max(first), min(last))


def to_field(column, row, group):
    """The motion of a grid group that brings the square in a column and a row to the field."""
    if group == "grid":
        return (0, (-column, -row, 1))
    if group == "grid2":
        if row % 2 == 0:
            return (0, (-column, -row // 2, 1))
        return (2, (column + 1, (row + 1) // 2, 1))
    # Each quarter turn about (0, 0) leads the squares of one kind to those of the next kind.
    if column % 2 == 0 and row % 2 == 0:
        return (0, (-column // 2, -row // 2, 1))
    if column % 2 == 0:
        return (1, ((row + 1) // 2, -column // 2, 1))
    if row % 2 == 0:
        return (3, (-row // 2, (column + 1) // 2, 1))
    return (2, ((column + 1) // 2, (row + 1) // 2, 1))


def rows_and_ends(figure):
    """The squares that polygons cover, as rows (row, first column, column behind the last), and what is left."""
    rows, ends = [], []
    for polygon in figure:
        for row, strip in parts_between(polygon, 1, 1):
            first, last = whole_squares(strip, row, "grid")
            if first < last:
                rows.append((row, first, last))
                both = [cut(strip, (1, 0, -last))[0], cut(strip, (1, 0, -first))[1]]
                ends.extend([end for end in both if end is not None])
            else:
                ends.append(strip)
    return (rows, ends)


def lay_rows(first, second):
    """Lay rows of squares on other ones; the paper, and what is left of the two lists of rows."""
    paper, here, there = [], list(first), list(second)
    while here and there:
        (row, start, end), (other_row, other_start, other_end) = here.pop(), there.pop()
        many = min(end - start, other_end - other_start)
        motion = (0, (other_start - start, other_row - row, 1))
        paper.append((row_polygon((row, start, start + many)), motion))
        if start + many < end:
            here.append((row, start + many, end))
        if other_start + many < other_end:
            there.append((other_row, other_start + many, other_end))
    return (paper, here, there)


def row_polygon(squares):
    row, first, last = squares
    return ((first, row, 1), (last, row, 1), (last, row + 1, 1), (first, row + 1, 1))


def folded_apart(first, second, group):
    """A paper for parts of two figures that are easily laid on one another, and the foldings of the others."""
    paper, first_rest, second_rest = matched_whole(first, second, group)
    (here, ends), (there, other_ends) = rows_and_ends(first_rest), rows_and_ends(second_rest)
    rows_paper, here, there = lay_rows(here, there)
    left = fold(ends + [row_polygon(squares) for squares in here], group)
    other_left = fold(other_ends + [row_polygon(squares) for squares in there], group)
    return (paper + rows_paper, left, other_left)


def fold_difference(first, second):
    """The border difference of two foldings; it is empty if the covers are everywhere the same."""
    return border_difference(pieces_of(first), pieces_of(second))


def grid_paper(first, second, group):
    """A right paper for a grid group, or None if there is none."""
    if figure_area(first) != figure_area(second):
        return None
    paper, here, there = folded_apart(first, second, group)
    if fold_difference(here, there):
        return None
    matched, _, _ = match(here, there)
    laid = [(moved_polygon(back, polygon), follow(undo(back), other)) for polygon, back, other in matched]
    return shortened(paper + laid)
