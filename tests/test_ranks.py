"""Promise 32: histories of books of any length that are told of ranks lead to the states of these ranks."""

import random
import unittest

from leafmarks.ranks import ranked, with_deed
from leafmarks.searches import Search
from leafmarks.spaces import Space, steps_of
from tests.helpers import LeafCase
from tests.telling import FAULTS, KINDS, Telling, drawn_rule


class TestRanks(LeafCase):
    def test_32_drawn_ways_through_ranks_as_histories(self):
        chance = random.Random(32)
        for turn in range(120):
            rule, many, fault = drawn_rule(chance, 1 + turn % 3), 1 + turn % 3, FAULTS[turn % 4]
            space = Space([rule], many, (fault,))
            search = Search(space, KINDS)
            state, history = space.beginning(), []
            for _ in range(25):
                deed, after, _ = chance.choice(search.steps_from(state))
                history = with_deed(history, search.values_behind(history), deed)
                state = after
                raw, _ = steps_of(space, history)[-1]
                self.assert_same(len(steps_of(space, history)), len(history))
                self.assert_same(ranked(raw), state)
            telling = Telling([rule], many)
            for deed in history:
                telling.do(deed)
            self.assert_same(telling.state(fault), state)
            self.assertLess(max([0] + [deed[2] for deed in history if len(deed) == 3]), 60)

    def test_32_room_is_made_between_two_places(self):
        history = [("read", 0, 1), ("jump", 1, 2), ("give", 0)]
        values = (1, 1, 2, 2, 1)
        for place, told in (
            (0, [("read", 0, 1), ("jump", 1, 2), ("give", 0), ("jump", 0, 0)]),
            (1, [("read", 0, 2), ("jump", 1, 3), ("give", 0), ("jump", 0, 1)]),
            (2, [("read", 0, 1), ("jump", 1, 2), ("give", 0), ("jump", 0, 1)]),
            (3, [("read", 0, 1), ("jump", 1, 3), ("give", 0), ("jump", 0, 2)]),
            (4, [("read", 0, 1), ("jump", 1, 2), ("give", 0), ("jump", 0, 2)]),
            (5, [("read", 0, 1), ("jump", 1, 2), ("give", 0), ("jump", 0, 3)]),
        ):
            self.assert_same(with_deed(history, values, ("jump", 0, place)), told)
        self.assert_same(with_deed(history, values, ("take", 1)), history + [("take", 1)])


if __name__ == "__main__":
    unittest.main()
