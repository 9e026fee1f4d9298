"""Promises 18 and 19: editions that cross, and how they are mended."""

import itertools
import random
import unittest

from leafmarks.places import Place
from leafmarks.walks import Walk, crossing, mended
from leafmarks.works import Edition, Work
from tests.helpers import (
    HUGE,
    LeafCase,
    all_editions,
    anything,
    edition_of,
    letters,
    numbers_of,
    plain_walk,
    subsets,
    work_of,
)


def plain_crossing(one, other, length):
    """The least cut at which the order matters, of the numbers of two editions."""
    for cut in range(length + 1):
        if plain_walk([one, other], cut) != plain_walk([other, one], cut):
            return cut
    return None


def apart_between(one, other, length):
    """The third wording of promise 18, of the numbers of two editions."""
    both = [0] + [number + 1 for number in one if number in other] + [length + 1]
    for low, high in zip(both, both[1:]):
        inside = [[low < number + 1 < high for number in numbers] for numbers in (one, other)]
        if any(inside[0]) and any(inside[1]):
            return False
    return True


class PlainMender:
    """A plain search: all rows of passages that can be put in, the fewest and least ones first."""

    def __init__(self, length):
        self.length = length
        self.cross = {}
        for one, other in itertools.product(subsets(length), repeat=2):
            self.cross[tuple(one), tuple(other)] = plain_crossing(one, other, length) is not None

    def mended(self, rows):
        free = [(at, number) for at, row in enumerate(rows) for number in range(self.length) if number not in row]
        for size in range(len(free) + 1):
            for pairs in itertools.combinations(free, size):
                if self.holds(rows, pairs):
                    return list(pairs)
        return None

    def holds(self, rows, pairs):
        full = [
            tuple(sorted(list(row) + [number for index, number in pairs if index == at]))
            for at, row in enumerate(rows)
        ]
        return not any(self.cross[one, other] for one, other in itertools.combinations(full, 2))


class TestCrossing(LeafCase):
    def test_18_all_pairs_held_against_the_walks(self):
        for length in (1, 2, 3, 5):
            work = work_of(length)
            editions = all_editions(work)
            for one, other in itertools.product(editions, repeat=2):
                there, back = Walk(work, [one, other]), Walk(work, [other, one])
                told = crossing(one, other)
                self.assert_same(told, plain_crossing(numbers_of(one), numbers_of(other), length))
                self.assert_same(told, there.parted(back))
                self.assert_same(told, crossing(other, one))

    def test_18_both_wordings_hold(self):
        work = work_of(4)
        for one, other in itertools.product(all_editions(work), repeat=2):
            none = crossing(one, other) is None
            both = Walk(work, [one & other])
            self.assertIs(Walk(work, [one, other]) == both and Walk(work, [other, one]) == both, none)
            self.assertIs(apart_between(numbers_of(one), numbers_of(other), 4), none)

    def test_18_editions_that_do_not_cross(self):
        work = work_of(4)
        for one, other in (([], [0, 3]), ([0, 1, 2, 3], [1, 2]), ([1], [1]), ([0, 1], [1, 2]), ([0, 2], [2, 3])):
            self.assert_same(crossing(edition_of(work, one), edition_of(work, other)), None)

    def test_18_editions_that_cross(self):
        work = work_of(4)
        for one, other, cut in (([0], [1], 2), ([1, 3], [0, 2], 2), ([0, 1, 3], [0, 2], 3), ([3], [0], 4)):
            self.assert_same(crossing(edition_of(work, one), edition_of(work, other)), cut)

    def test_18_editions_of_equal_works(self):
        self.assert_same(crossing(edition_of(work_of(3), [0]), edition_of(work_of(3), [1])), 2)
        self.assert_same(crossing(one=edition_of(work_of(3), [0]), other=edition_of(work_of(3), [0, 1])), None)

    def test_18_without_crossing_one_turn_is_enough(self):
        work = work_of(4)
        for editions in itertools.product(all_editions(work), repeat=3):
            if all(crossing(one, other) is None for one, other in itertools.combinations(editions, 2)):
                walk = Walk(work, editions)
                self.assertEqual(walk.table(), [walk.rest(cut) for cut in range(5)])
                self.assertLessEqual(walk.longest()[0], 1)

    def test_18_of_unequal_works(self):
        passages = ["a", "b", "c"]
        one = Edition(Work("w", passages), ["a"])
        for work in (Work("v", passages), Work("w", ["a", "b"]), Work("w", ["a", "c", "b"])):
            for words in ([], ["a"], ["b"]):
                other = Edition(work, words)
                self.assert_refused("OtherWork", (), crossing, one, other)
                self.assert_refused("OtherWork", (), crossing, other, one)
                self.assert_refused("OtherWork", (), crossing, one=one, other=other)


class TestMended(LeafCase):
    def assert_mended(self, plain, rows):
        work = work_of(plain.length)
        self.assert_same(mended([edition_of(work, numbers) for numbers in rows]), plain.mended(rows))

    def test_19_one_edition(self):
        for length in range(1, 7):
            for edition in all_editions(work_of(length)):
                self.assert_same(mended([edition]), [])

    def test_19_all_pairs_held_against_a_plain_search(self):
        for length in (1, 2, 3, 4):
            plain = PlainMender(length)
            for rows in itertools.product(subsets(length), repeat=2):
                self.assert_mended(plain, rows)

    def test_19_pairs_of_longer_works(self):
        for length in (5, 6):
            plain, chance = PlainMender(length), random.Random(length)
            for _ in range(60):
                self.assert_mended(plain, [chance.choice(subsets(length)) for _ in range(2)])

    def test_19_all_threes_of_short_works(self):
        for length in (1, 2, 3):
            plain = PlainMender(length)
            for rows in itertools.product(subsets(length), repeat=3):
                self.assert_mended(plain, rows)

    def test_19_threes_of_longer_works(self):
        for length in (4, 5, 6):
            plain, chance = PlainMender(length), random.Random(length)
            for _ in range(40):
                self.assert_mended(plain, [chance.choice(subsets(length)) for _ in range(3)])

    def test_19_threes_that_take_much(self):
        plain = PlainMender(6)
        for rows in (
            ([2, 5], [1, 5], [0, 3, 4]),
            ([1, 2, 5], [0, 4], [1, 3, 5]),
            ([0], [1], [2]),
            ([5], [4], [3]),
            ([0, 3], [1, 4], [2, 5]),
            ([0, 2, 4], [1, 3, 5], [0, 2, 4]),
        ):
            self.assert_mended(plain, rows)

    def test_19_what_is_told_mends(self):
        work, chance = work_of(6), random.Random(19)
        for _ in range(40):
            rows = [chance.choice(subsets(6)) for _ in range(3)]
            told = mended([edition_of(work, numbers) for numbers in rows])
            self.assertEqual(told, sorted(set(told)))
            for index, number in told:
                self.assertNotIn(number, rows[index])
            full = [sorted(row + [number for index, number in told if index == at]) for at, row in enumerate(rows)]
            self.assert_same(mended([edition_of(work, numbers) for numbers in full]), [])

    def test_19_none_cross(self):
        work = work_of(4)
        for rows in (([], [], []), ([0, 1, 2, 3], [1], [1, 2]), ([0, 1], [0, 1], [0])):
            self.assert_same(mended([edition_of(work, numbers) for numbers in rows]), [])

    def test_19_a_tuple_and_equal_works(self):
        rows = ([0], [1], [2])
        self.assert_same(mended(tuple(edition_of(work_of(3), numbers) for numbers in rows)), [(0, 1), (2, 1)])
        self.assert_same(mended(editions=[edition_of(work_of(3), [0]), edition_of(work_of(3), [1])]), [(0, 1)])

    def test_19_the_editions_stay_as_they_are(self):
        work = work_of(4)
        editions = [edition_of(work, [1, 3]), edition_of(work, [0, 2])]
        mended(editions)
        self.assertEqual([numbers_of(edition) for edition in editions], [[1, 3], [0, 2]])

    def test_19_editions_that_are_no_list(self):
        work = work_of(3)
        for thing in (None, True, False, 0, 1, HUGE, "", "a", {}, {"a": 1}, {0: work.whole()}, [], ()):
            self.assert_refused("BadEdition", (0,), mended, thing)
        for thing in (work, work.whole(), Place(work.whole(), 1), Walk(work, [work.whole()])):
            self.assert_refused("BadEdition", (0,), mended, thing)

    def test_19_the_first_thing_that_is_no_edition(self):
        work = work_of(3)
        right = [edition_of(work, [0]), edition_of(work, [1])]
        wrong = anything() + [work, Place(right[0], 0), Walk(work, []), [right[0]], (right[0],), Edition]
        for thing in wrong:
            for ahead in (0, 1, 2):
                for behind in ([], right, [None, thing]):
                    self.assert_refused("BadEdition", (ahead,), mended, right[:ahead] + [thing] + behind)
                    self.assert_refused("BadEdition", (ahead,), mended, tuple(right[:ahead] + [thing] + behind))

    def test_19_editions_of_unequal_works(self):
        work = work_of(3)
        right = [edition_of(work, [0]), edition_of(work, [1])]
        for other in (work_of(4), work_of(2), work_of(3, "v"), Work("w", letters(3)[::-1])):
            for numbers in ([], [0], [0, 1]):
                foreign = edition_of(other, numbers)
                self.assert_refused("BadEdition", (1,), mended, [right[0], foreign])
                self.assert_refused("BadEdition", (2,), mended, right + [foreign])
                self.assert_refused("BadEdition", (1,), mended, [right[0], foreign, 7])
                self.assert_refused("BadEdition", (1,), mended, [foreign, right[0], foreign])


if __name__ == "__main__":
    unittest.main()
