"""Promise 5: the limits themselves are held."""

import random
import unittest

from leafmarks.places import Place
from leafmarks.walks import Walk, crossing, mended
from leafmarks.works import Edition, Work
from tests.helpers import HUGE, LeafCase, edition_of, letters, numbers_of, plain_kernel, plain_walk, work_of


def even_numbers(length):
    return list(range(0, length, 2))


def odd_numbers(length):
    return list(range(1, length, 2))


class TestLimits(LeafCase):
    def test_5_a_work_of_sixty_passages(self):
        work = Work("abcdefgh", letters(60))
        self.assert_same(len(work), 60)
        self.assert_same(work.passages(), letters(60))
        self.assert_same(work.whole().passages(), letters(60))
        self.assert_same(work.whole().cut_behind(60), 60)
        self.assert_refused("BadCut", (61,), work.whole().kernel, 61)
        evens, odds = edition_of(work, even_numbers(60)), edition_of(work, odd_numbers(60))
        self.assert_equal_things(evens | odds, work.whole())
        self.assert_equal_things(evens & odds, Edition(work, []))
        self.assert_equal_things(work.whole() - evens, odds)
        for cut in range(61):
            self.assert_same(evens.kernel(cut), plain_kernel(even_numbers(60), cut))
        self.assert_same(crossing(evens, odds), 2)

    def test_5_the_longest_way_to_a_rest(self):
        work = work_of(60)
        walk = Walk(work, [edition_of(work, odd_numbers(60)), edition_of(work, even_numbers(60))])
        self.assert_same(walk.longest(), (31, 60))
        self.assert_same((walk.rest(60), walk.turns(60)), (0, 31))

    def test_5_a_walk_of_forty_editions(self):
        chance = random.Random(40)
        work = work_of(60)
        rows = [sorted(chance.sample(range(60), 55)) for _ in range(40)]
        walk = Walk(work, [edition_of(work, numbers) for numbers in rows])
        self.assert_same(len(walk), 40)
        self.assertEqual([numbers_of(edition) for edition in walk.editions()], rows)
        self.assert_same(walk.table(), [plain_walk(rows, cut) for cut in range(61)])
        common = [number for number in range(60) if all(number in numbers for numbers in rows)]
        self.assert_same([walk.rest(cut) for cut in range(61)], [plain_kernel(common, cut) for cut in range(61)])
        turned = walk.turned(5)
        self.assert_same(len(turned), 200)
        self.assert_same(turned.table(), [plain_walk(rows * 5, cut) for cut in range(61)])
        self.assert_equal_things(walk >> walk, walk**2)

    def test_5_two_hundred_turns(self):
        work = work_of(60)
        walk = Walk(work, [edition_of(work, [0, 1, 58])]).turned(200)
        self.assert_same(len(walk), 200)
        self.assert_same(len(walk.editions()), 200)
        self.assert_same(walk.table(), [plain_kernel([0, 1, 58], cut) for cut in range(61)])
        self.assert_same(walk(60), 59)
        self.assert_same(len(Walk(work, []) ** 200), 0)

    def test_5_the_shortest_of_ten_editions(self):
        work = work_of(60)
        rows = [[number for number in range(60) if number % 10 != out] for out in range(10)]
        self.assert_same(Walk(work, [edition_of(work, row) for row in rows]).shortest(), list(range(10)))
        self.assert_same(Walk(work, [edition_of(work, [5])] * 10).shortest(), [0])
        self.assert_same(Walk(work, [work.whole()] * 9 + [edition_of(work, [5])]).shortest(), [9])

    def test_5_three_editions_of_six_passages(self):
        work = work_of(6)
        self.assert_same(
            mended([edition_of(work, row) for row in ([0, 2, 4], [1, 3, 5], [0, 1, 3])]),
            [(0, 1), (0, 3), (0, 5)],
        )
        self.assert_same(mended([Edition(work, [])] * 3), [])
        self.assert_same(mended([work.whole()] * 3), [])

    def test_5_integers_of_sixty_figures(self):
        place = Place(work_of(60).whole(), 7)
        self.assert_same(((place + HUGE).count, (HUGE + place).count, (place - HUGE).count), (60, 60, 0))
        self.assert_same((place // HUGE, place % HUGE), (0, 7))
        for number in (HUGE, -HUGE):
            self.assert_refused("BadCount", (number,), Place, place.edition, number)
            self.assert_refused("BadCut", (number,), place.edition.kernel, number)


if __name__ == "__main__":
    unittest.main()
