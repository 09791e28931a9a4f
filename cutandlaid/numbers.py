"""Numbers: fractions, each written in one way as a tuple (n, d) with d at least 1."""

from math import gcd


def number(n, d):
    """The number that stands for n / d; d is not 0."""
    common = gcd(n, d)
    if d < 0:
        common = -common
    return (n // common, d // common)


def plus(a, b):
    # Divisors are sought among the denominators first, which is much quicker where one is short.
    common = gcd(a[1], b[1])
    share = b[1] // common
    n = a[0] * share + b[0] * (a[1] // common)
    more = gcd(n, common)
    return (n // more, (a[1] // more) * share)


def minus(a, b):
    return plus(a, (-b[0], b[1]))


def times(a, b):
    first, second = gcd(a[0], b[1]), gcd(b[0], a[1])
    return ((a[0] // first) * (b[0] // second), (a[1] // second) * (b[1] // first))


def over(a, b):
    """The quotient of a and b; b is not nought."""
    return number(a[0] * b[1], a[1] * b[0])


def less(a, b):
    return a[0] * b[1] < b[0] * a[1]


def sign(a):
    """1, 0 or -1, as the number is above, at or below nought."""
    if a[0] > 0:
        return 1
    if a[0] < 0:
        return -1
    return 0


def size_of(a):
    """The number without its sign."""
    return (abs(a[0]), a[1])


def total(numbers):
    """The sum of a list of numbers."""
    row = list(numbers)
    if not row:
        return (0, 1)
    # Neighbours are added in rounds: so the sums with the long denominators are few.
    while len(row) > 1:
        sums = [plus(row[k], row[k + 1]) for k in range(0, len(row) - 1, 2)]
        row = sums + row[2 * len(sums):]
    return row[0]


def least(numbers):
    """The least one of a list of numbers that is not empty."""
    best = numbers[0]
    for a in numbers:
        if less(a, best):
            best = a
    return best


def greatest(numbers):
    """The greatest one of a list of numbers that is not empty."""
    return numbers[place_of_greatest(numbers)]


def place_of_greatest(numbers):
    """The place of the first one of the greatest numbers in a list that is not empty."""
    best = 0
    for k in range(1, len(numbers)):
        if less(numbers[best], numbers[k]):
            best = k
    return best


def ranks(numbers):
    """Integers, one for each number, that compare with one another as the numbers do."""
    # Different numbers differ by 1 / (d * d) or more, d being the greatest denominator,
    # so the whole parts of their multiples by d * d are different.
    finest = max([d for _, d in numbers], default=1)
    scale = finest * finest
    return [n * scale // d for n, d in numbers]


def ascending(numbers):
    """The different ones of a list of numbers in ascending order."""
    by_rank = {}
    for rank, a in zip(ranks(numbers), numbers):
        by_rank[rank] = a
    return [by_rank[rank] for rank in sorted(by_rank)]
