"""Promise 47: the examples as they are written."""

import unittest

from leafmarks.walks import Walk, crossing, mended
from leafmarks.works import Edition, Work
from tests.helpers import LeafCase


class TestExamples(LeafCase):
    def setUp(self):
        self.work = Work("w", ["a", "b", "c", "d"])
        self.one = Edition(self.work, ["b", "d"])
        self.other = Edition(self.work, ["a", "c"])

    def test_47_kernels(self):
        self.assert_same(self.one.kernel(3), 2)
        self.assert_same(self.other.kernel(4), 3)

    def test_47_the_walks_of_both(self):
        there, back = Walk(self.work, [self.one, self.other]), Walk(self.work, [self.other, self.one])
        self.assert_same(there.table(), [0, 0, 1, 1, 3])
        self.assert_same(back.table(), [0, 0, 0, 2, 2])
        self.assert_same([there(cut) for cut in range(5)], [0, 0, 1, 1, 3])
        self.assert_same([back(cut) for cut in range(5)], [0, 0, 0, 2, 2])

    def test_47_they_cross(self):
        self.assert_same(crossing(self.one, self.other), 2)
        self.assert_same(Walk(self.work, [self.one, self.other])(2), 1)
        self.assert_same(Walk(self.work, [self.other, self.one])(2), 0)

    def test_47_turns(self):
        walk = Walk(self.work, [self.one, self.other])
        self.assert_same(walk(4), 3)
        self.assert_same(walk.turned(2)(4), 1)
        self.assert_same(walk.turned(3)(4), 0)
        self.assert_same((walk.rest(4), walk.turns(4)), (0, 3))
        self.assert_same(walk.longest(), (3, 4))

    def test_47_mended(self):
        self.assert_same(mended([self.one, self.other]), [(0, 0), (0, 2)])


if __name__ == "__main__":
    unittest.main()
