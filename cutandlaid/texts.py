"""Texts of figures and of papers: a line for each polygon, and for each piece with its motion."""

from math import gcd

from cutandlaid.errors import BadText
from cutandlaid.polygons import is_polygon

# Long integers are written and read in parts of so many digits, as Python does not do it for all at once.
DIGITS = 64
PART = 10 ** 64


def write_figure(figure):
    """The text of a figure."""
    return "".join(["polygon " + written_points(polygon) + "\n" for polygon in figure])


def write_paper(paper):
    """The text of a paper."""
    return "".join([f"piece {k} " + written_points((v,) + polygon) + "\n" for polygon, (k, v) in paper])


def written_points(points):
    return " ".join([written(n) for p in points for n in p])


def written(n):
    """An integer in decimal digits."""
    if n < 0:
        return "-" + written(-n)
    parts = []
    while n >= PART:
        n, last = divmod(n, PART)
        parts.append(str(last).zfill(DIGITS))
    parts.append(str(n))
    return "".join(parts[::-1])


def read_figure(text):
    """The list of the polygons of a text; BadText for the first line that is none of a figure."""
    return [corners for corners, _ in read_lines(text, "polygon", 0)]


def read_paper(text):
    """The list of the pairs of a text; BadText for the first line that is none of a paper."""
    return [(corners, (head[0], point_at(head, 1))) for corners, head in read_lines(text, "piece", 4)]


def read_lines(text, word, many):
    """For each line the pair of the polygon and the integers, so many, between the word and the polygon."""
    lines = text.split("\n")
    rest = lines.pop()
    rows = []
    for k, line in enumerate(lines):
        row = read_line(line, word, many)
        if row is None:
            raise BadText(k)
        rows.append(row)
    if rest != "":
        raise BadText(len(lines))
    return rows


def read_line(line, word, many):
    """The polygon and the integers before it that a line tells, None for a bad line."""
    words = line.split(" ")
    if words[0] != word or not all([is_integer_word(other) for other in words[1:]]):
        return None
    numbers = [integer_of(other) for other in words[1:]]
    head, numbers = numbers[:many], numbers[many:]
    if len(numbers) % 3 != 0 or not is_head(head, many):
        return None
    corners = tuple([point_at(numbers, k) for k in range(0, len(numbers), 3)])
    if not all([is_point(p) for p in corners]) or not is_polygon(corners):
        return None
    return (corners, head)


def is_integer_word(word):
    """Whether a word is an integer in decimal digits, written in its one way."""
    digits = word[1:] if word.startswith("-") else word
    if not digits.isdigit() or not digits.isascii():
        return False
    return word == "0" or not digits.startswith("0")


def integer_of(word):
    """The integer that a word tells."""
    if word.startswith("-"):
        return -integer_of(word[1:])
    n = 0
    for k in range(0, len(word), DIGITS):
        part = word[k:k + DIGITS]
        n = shifted(n, len(part)) + int(part)
    return n


def shifted(n, many):
    """An integer with so many noughts behind it."""
    for _ in range(many):
        n *= 10
    return n


def is_head(head, many):
    """Whether integers, of which there should be so many, tell a motion, or nothing where there are none."""
    if len(head) < many:
        return False
    return many == 0 or (head[0] in (0, 1, 2, 3) and is_point(point_at(head, 1)))


def point_at(numbers, k):
    return (numbers[k], numbers[k + 1], numbers[k + 2])


def is_point(p):
    """Whether three integers are a point in its one form."""
    x, y, w = p
    return w >= 1 and gcd(gcd(x, y), w) == 1
