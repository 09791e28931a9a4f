"""Points and vectors, tuples (x, y, w) for the place (x / w, y / w), and the lines through them.

A line is a tuple (a, b, c) of integers: the points on it are those with a * x + b * y + c * w = 0.
"""

from math import gcd

from cutandlaid.numbers import number


def point(x, y, w):
    """The point for the place (x / w, y / w); w is not 0."""
    if w == 1:
        return (x, y, w)
    common = gcd(gcd(w, x), y)
    if w < 0:
        common = -common
    return (x // common, y // common, w // common)


def point_of(a, b):
    """The point with the numbers a and b as its coordinates."""
    return point(a[0] * b[1], b[0] * a[1], a[1] * b[1])


def first_of(p):
    return number(p[0], p[2])


def second_of(p):
    return number(p[1], p[2])


def added(p, v):
    """The point to which the vector v leads from p."""
    return point(p[0] * v[2] + v[0] * p[2], p[1] * v[2] + v[1] * p[2], p[2] * v[2])


def difference(p, q):
    """The vector that leads from q to p."""
    return point(p[0] * q[2] - q[0] * p[2], p[1] * q[2] - q[1] * p[2], p[2] * q[2])


def comes_before(p, q):
    """Whether p has the lesser first coordinate, or the same one and the lesser second one."""
    here, there = p[0] * q[2], q[0] * p[2]
    if here != there:
        return here < there
    return p[1] * q[2] < q[1] * p[2]


def side(a, b, c):
    """1 if c lies to the left of the line from a to b, -1 to the right, 0 on the line."""
    turn = (a[0] * (b[1] * c[2] - b[2] * c[1])
            + a[1] * (b[2] * c[0] - b[0] * c[2])
            + a[2] * (b[0] * c[1] - b[1] * c[0]))
    if turn > 0:
        return 1
    if turn < 0:
        return -1
    return 0


def line_through(a, b):
    """The line from a to b, which are different, without a common divisor."""
    first = a[1] * b[2] - a[2] * b[1]
    second = a[2] * b[0] - a[0] * b[2]
    third = a[0] * b[1] - a[1] * b[0]
    common = gcd(gcd(first, second), third)
    return (first // common, second // common, third // common)


def one_way(line):
    """The same line, whichever way it leads."""
    a, b, c = line
    if a < 0 or (a == 0 and b < 0):
        return (-a, -b, -c)
    return line


def line_value(line, p):
    """An integer above 0 if p lies to the left of the line, below 0 to the right, 0 on it."""
    return line[0] * p[0] + line[1] * p[1] + line[2] * p[2]


def common_point(line, other):
    """The point that two lines have in common, None if they are parallel or the same."""
    w = line[0] * other[1] - line[1] * other[0]
    if w == 0:
        return None
    x = line[1] * other[2] - line[2] * other[1]
    y = line[2] * other[0] - line[0] * other[2]
    return point(x, y, w)


def crossing(a, b, c, d):
    """The point that the lines through a and b, and c and d, have in common, or None."""
    return common_point(line_through(a, b), line_through(c, d))


def at_height(line, height):
    """The point of a line that is not level at a height."""
    n, d = height
    return point(-(line[1] * n + line[2] * d), line[0] * n, line[0] * d)
