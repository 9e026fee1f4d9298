"""Promises 47 to 49: the examples as they are written."""

import unittest

from leafmarks.histories import faults, played
from leafmarks.judging import is_never, is_run, judged
from leafmarks.rules import Rule
from leafmarks.walks import Walk, crossing, mended
from leafmarks.works import Edition, Work
from tests.helpers import LeafCase


class TestExamples(LeafCase):
    def setUp(self):
        self.work = Work("w", ["a", "b", "c", "d"])
        self.one = Edition(self.work, ["b", "d"])
        self.other = Edition(self.work, ["a", "c"])

    def test_47_kernels(self):
        self.assert_same(self.one.kernel(3), 2)
        self.assert_same(self.other.kernel(4), 3)

    def test_47_the_walks_of_both(self):
        there, back = Walk(self.work, [self.one, self.other]), Walk(self.work, [self.other, self.one])
        self.assert_same(there.table(), [0, 0, 1, 1, 3])
        self.assert_same(back.table(), [0, 0, 0, 2, 2])
        self.assert_same([there(cut) for cut in range(5)], [0, 0, 1, 1, 3])
        self.assert_same([back(cut) for cut in range(5)], [0, 0, 0, 2, 2])

    def test_47_they_cross(self):
        self.assert_same(crossing(self.one, self.other), 2)
        self.assert_same(Walk(self.work, [self.one, self.other])(2), 1)
        self.assert_same(Walk(self.work, [self.other, self.one])(2), 0)

    def test_47_turns(self):
        walk = Walk(self.work, [self.one, self.other])
        self.assert_same(walk(4), 3)
        self.assert_same(walk.turned(2)(4), 1)
        self.assert_same(walk.turned(3)(4), 0)
        self.assert_same((walk.rest(4), walk.turns(4)), (0, 3))
        self.assert_same(walk.longest(), (3, 4))

    def test_47_mended(self):
        self.assert_same(mended([self.one, self.other]), [(0, 0), (0, 2)])

    def test_48_latest(self):
        history = [("read", 0, 1), ("take", 0)]
        self.assert_same(faults(Rule.latest(), 1, history), [(1, "back"), (1, "lost")])
        for setting in (1, 2, 3, [self.work.whole()]):
            for fault in ("back", "lost"):
                self.assert_true(is_run(Rule.latest(), fault, setting, history))
                told = judged(Rule.latest(), fault, setting)
                self.assert_same((told[0], len(told[1])), ("run", 2))

    def test_48_furthest(self):
        for setting in (1, 2, [self.work.whole()], [self.one, self.other]):
            word, states = judged(Rule.furthest(), "back", setting)
            self.assert_same(word, "never")
            self.assert_true(is_never(Rule.furthest(), "back", setting, states))

    def test_49_floored_and_exact(self):
        history = [("read", 0, 4), ("give", 0), ("take", 1), ("give", 1), ("take", 0)]
        setting = [self.one, self.other]
        field = ("late", "last", "last", "least", "last", "last")
        floored, exact = [Rule([(*field, kept)], ("field", "late")) for kept in ("floored", "exact")]
        self.assert_same(faults(floored, setting, history), [(4, "back"), (4, "nobody"), (4, "lost")])
        told = played(floored, setting, history)
        self.assert_same([places for places, _ in told], [(4, 0), (4, 0), (4, 3), (4, 3), (2, 3)])
        self.assert_same(told[3][1], ((4,), (3,), (3,)))
        for fault in ("back", "nobody", "lost"):
            self.assert_true(is_run(floored, fault, setting, history))
        self.assert_equal_things(exact, Rule.latest())
        told = played(exact, setting, history)
        self.assert_same([places for places, _ in told], [(4, 0), (4, 0), (4, 3), (4, 3), (4, 3)])
        self.assert_same(told[3][1], ((4,), (4,), (4,)))
        self.assert_same(faults(exact, setting, history), [])


if __name__ == "__main__":
    unittest.main()
