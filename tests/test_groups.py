import unittest

from cutandlaid import groups
from cutandlaid.groups import GROUPS, in_group, lies_in

LEVEL, WHOLE, LEVEL_WHOLE, BROKEN = (7, 0, 2), (-3, 4, 1), (5, 0, 1), (1, -9, 6)
STAY = (0, 0, 1)
# For each group the numbers of quarter turns and the vectors of its motions.
MEMBERS = {
    "level": ((0,), (LEVEL, LEVEL_WHOLE, STAY)),
    "grid": ((0,), (WHOLE, LEVEL_WHOLE, STAY)),
    "grid2": ((0, 2), (WHOLE, LEVEL_WHOLE, STAY)),
    "grid4": ((0, 1, 2, 3), (WHOLE, LEVEL_WHOLE, STAY)),
    "free": ((0,), (LEVEL, WHOLE, LEVEL_WHOLE, BROKEN, STAY)),
    "free2": ((0, 2), (LEVEL, WHOLE, LEVEL_WHOLE, BROKEN, STAY)),
    "free4": ((0, 1, 2, 3), (LEVEL, WHOLE, LEVEL_WHOLE, BROKEN, STAY)),
}
VECTORS = (LEVEL, WHOLE, LEVEL_WHOLE, BROKEN, STAY)


class Groups(unittest.TestCase):
    def test_the_names(self):
        self.assertEqual(GROUPS, ("level", "grid", "grid2", "grid4", "free", "free2", "free4"))
        self.assertIs(type(groups.GROUPS), tuple)

    def test_in_group(self):
        for group, (turns, vectors) in MEMBERS.items():
            for k in range(4):
                for v in VECTORS:
                    self.assertIs(in_group((k, v), group), k in turns and v in vectors, (group, k, v))

    def test_vectors_that_are_nearly_whole_or_level(self):
        self.assertIs(in_group((0, (10 ** 30, 10 ** 30 + 1, 1)), "grid"), True)
        self.assertIs(in_group((0, (10 ** 30, 0, 1)), "level"), True)
        self.assertIs(in_group((0, (10 ** 30, 1, 10 ** 40)), "level"), False)
        self.assertIs(in_group((0, (10 ** 30 + 1, 0, 2)), "grid"), False)
        self.assertIs(in_group((0, (0, 1, 2)), "grid"), False)
        self.assertIs(in_group((0, (1, 0, 2)), "grid4"), False)

    def test_lies_in(self):
        motions = {group: {(k, v) for k in turns for v in vectors}
                   for group, (turns, vectors) in MEMBERS.items()}
        for group in GROUPS:
            for other in GROUPS:
                self.assertIs(lies_in(group, other), motions[group] <= motions[other], (group, other))

    def test_lies_in_by_hand(self):
        for group in GROUPS:
            self.assertIs(lies_in(group, group), True)
            self.assertIs(lies_in(group, "free4"), True)
        self.assertEqual([other for other in GROUPS if lies_in("level", other)],
                         ["level", "free", "free2", "free4"])
        self.assertEqual([other for other in GROUPS if lies_in("grid2", other)],
                         ["grid2", "grid4", "free2", "free4"])
        self.assertEqual([other for other in GROUPS if lies_in("free2", other)], ["free2", "free4"])
        self.assertIs(lies_in("grid4", "free2"), False)
        self.assertIs(lies_in("free", "grid4"), False)
