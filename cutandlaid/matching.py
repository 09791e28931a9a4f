"""What is matched of two lists of layers, and the plain way to match what is left of them."""

from cutandlaid.clipping import meet, rest
from cutandlaid.frames import frame, overlap


class Matching:
    """What is matched so far, and what is left of the two lists for good."""

    def __init__(self):
        self.matched = []
        self.rests = ([], [])

    def pair(self, polygon, which, motion, other):
        """Match a polygon by a motion in the first list (which is 0) or the second one, and the other one."""
        if which == 0:
            self.matched.append((polygon, motion, other))
        else:
            self.matched.append((polygon, other, motion))

    def leave(self, which, layers):
        self.rests[which].extend(layers)


def shared(first, second):
    """What two polygons have in common, and the lists of what is left of them; None if they do not meet."""
    common = meet(first, second)
    if common is None:
        return None
    # Only the edges of the common polygon are to cut, not all those of the other polygon.
    return (common, rest(first, common), rest(second, common))


def without_alike(first, second, matching):
    """Match the layers that have equal polygons; the pair of the lists of the others."""
    places = {}
    for k, (polygon, _) in enumerate(first):
        places.setdefault(polygon, []).append(k)
    used = [False for _ in first]
    others = []
    for polygon, motion in second:
        if places.get(polygon):
            k = places[polygon].pop()
            used[k] = True
            matching.pair(polygon, 0, first[k][1], motion)
        else:
            others.append((polygon, motion))
    return ([layer for k, layer in enumerate(first) if not used[k]], others)


class Remains:
    """Layers of which parts are taken away, each one a tree of what is left of it."""

    def __init__(self, layers):
        self.polygons = []
        self.motions = []
        self.frames = []
        # For a polygon of which something was taken the numbers of what was left, None for the others.
        self.parts = []
        for polygon, motion in layers:
            self.keep(polygon, motion)

    def keep(self, polygon, motion):
        self.polygons.append(polygon)
        self.motions.append(motion)
        self.frames.append(frame(polygon))
        self.parts.append(None)

    def take(self, piece, possible):
        """Take from one of the possible polygons what it has in common with a piece.

        The answer is a tuple of that part, its motion and what is left of the piece; None if no
        polygon meets the piece. What need not be tried again is removed from the possible ones.
        """
        box = frame(piece)
        while possible:
            k = possible.pop()
            if not overlap(box, self.frames[k]):
                continue
            if self.parts[k] is not None:
                possible.extend(self.parts[k])
                continue
            found = shared(self.polygons[k], piece)
            if found is not None:
                common, left, left_of_piece = found
                self.parts[k] = [len(self.polygons) + j for j in range(len(left))]
                for polygon in left:
                    self.keep(polygon, self.motions[k])
                return (common, self.motions[k], left_of_piece)
        return None

    def left(self):
        """The layers that are left."""
        return [(self.polygons[k], self.motions[k])
                for k in range(len(self.polygons)) if self.parts[k] is None]


def match_plainly(first, second, neighbours, matching):
    """Match each layer of the second list with what is left of the first list.

    The neighbours are, for each layer of the second list, the numbers of those that may meet it.
    """
    remains = Remains(first)
    for k, (polygon, motion) in enumerate(second):
        waiting = [(polygon, list(neighbours[k]))]
        while waiting:
            piece, possible = waiting.pop()
            found = remains.take(piece, possible)
            if found is None:
                matching.leave(1, [(piece, motion)])
            else:
                common, other, left = found
                matching.pair(common, 1, motion, other)
                waiting.extend([(part, list(possible)) for part in left])
    matching.leave(0, remains.left())
