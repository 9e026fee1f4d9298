"""Promises 14 to 17: walks."""

import itertools
import random
import unittest

from leafmarks.places import Place
from leafmarks.walks import Walk
from leafmarks.works import Edition, Work
from tests.helpers import (
    HUGE,
    LeafCase,
    all_editions,
    anything,
    edition_of,
    integers,
    letters,
    numbers_of,
    others,
    plain_kernel,
    plain_walk,
    subsets,
    work_of,
)


def walk_of(work, *rows):
    """The walk of the editions of the passages with these numbers."""
    return Walk(work, [edition_of(work, numbers) for numbers in rows])


def chance_rows(chance, length, many):
    """Numbers of so many editions, drawn from a source that is the same for each run."""
    return [sorted(chance.sample(range(length), chance.randint(0, length))) for _ in range(many)]


def plain_table(rows, length):
    return [plain_walk(rows, cut) for cut in range(length + 1)]


def plain_turns(rows, cut):
    """The cuts that the turns of a walk lead through."""
    way = [cut]
    while plain_walk(rows, way[-1]) != way[-1]:
        way.append(plain_walk(rows, way[-1]))
    return way


def some_rows():
    """Rows of editions of works of several lengths: none, one, the same one twice, several, forty."""
    chance = random.Random(14)
    for length in (1, 2, 3, 5, 8):
        yield length, []
        yield length, [list(range(length))]
        yield length, [[]]
        one = chance_rows(chance, length, 1)
        yield length, one
        yield length, one + one
        for many in (2, 2, 3, 3, 4, 5, 40):
            yield length, chance_rows(chance, length, many)
    # These take many turns to their rest.
    yield 8, [[0, 2, 4, 6], [1, 3, 5, 7]]
    yield 9, [[1, 3, 5, 7], [0, 2, 4, 6, 8], [0, 1, 2, 3, 4, 5, 6, 7, 8]]


class TestTold(LeafCase):
    def test_14_what_a_walk_tells(self):
        for length, rows in some_rows():
            work = work_of(length)
            editions = [edition_of(work, numbers) for numbers in rows]
            for row in (editions, tuple(editions)):
                walk = Walk(work, row)
                self.assert_same(len(walk), len(rows))
                told = walk.editions()
                self.assertIs(type(told), list)
                self.assertEqual(len(told), len(rows))
                for one, other in zip(told, editions):
                    self.assert_equal_things(one, other)
                self.assert_same(walk.table(), plain_table(rows, length))
                for cut in range(length + 1):
                    self.assert_same(walk(cut), plain_walk(rows, cut))

    def test_14_all_walks_of_two_editions(self):
        work = work_of(4)
        for one in all_editions(work):
            for other in all_editions(work):
                rows = [numbers_of(one), numbers_of(other)]
                self.assert_same(Walk(work, [one, other]).table(), plain_table(rows, 4))

    def test_14_the_first_edition_comes_first(self):
        work = work_of(4)
        walk = walk_of(work, [1, 3], [0, 2])
        self.assertEqual([numbers_of(edition) for edition in walk.editions()], [[1, 3], [0, 2]])
        self.assert_same(walk.table(), [0, 0, 1, 1, 3])

    def test_14_editions_of_equal_works(self):
        edition = edition_of(work_of(3), [0, 2])
        walk = Walk(work_of(3), [edition])
        self.assert_equal_things(walk.editions()[0], edition)
        self.assert_same(walk.table(), [0, 1, 1, 3])


class TestRefused(LeafCase):
    def test_14_editions_that_are_no_list(self):
        work = work_of(3)
        for thing in [None, True, False, 0, 1, HUGE, "", "a", "kz", {}, {"a": 1}, {0: work.whole()}]:
            self.assert_refused("BadEdition", (0,), Walk, work, thing)
        for thing in (work, work.whole(), Place(work.whole(), 1), Walk(work, []), Walk(work, [work.whole()])):
            self.assert_refused("BadEdition", (0,), Walk, work, thing)

    def test_14_the_first_thing_that_is_no_edition(self):
        work = work_of(3)
        right = all_editions(work)
        wrong = anything() + [work, Place(right[0], 0), Walk(work, []), [right[0]], (right[0],), Edition]
        wrong += [work_of(4).whole(), work_of(3, "v").whole(), Edition(Work("w", letters(3)[::-1]), [])]
        for thing in wrong:
            for ahead in (0, 1, 2, 5):
                row = right[:ahead] + [thing]
                self.assert_refused("BadEdition", (ahead,), Walk, work, row)
                self.assert_refused("BadEdition", (ahead,), Walk, work, tuple(row + [right[0], None, thing]))
                self.assert_refused("BadEdition", (ahead,), Walk, work=work, editions=row + right)

    def test_14_cuts_that_are_none(self):
        for length in (1, 6):
            work = work_of(length)
            for walk in (Walk(work, []), Walk(work, [work.whole()]), walk_of(work, [], [0])):
                for cut in [-1, length + 1] + integers() + others() + letters(2):
                    if isinstance(cut, bool) or cut not in range(length + 1):
                        self.assert_refused("BadCut", (cut,), walk, cut)
                        self.assert_refused("BadCut", (cut,), walk.rest, cut)
                        self.assert_refused("BadCut", (cut,), walk.turns, cut)

    def test_15_turns_that_are_none(self):
        work = work_of(3)
        for walk in (Walk(work, []), walk_of(work, [0, 1])):
            for turns in anything():
                if isinstance(turns, bool) or not isinstance(turns, int) or turns < 0:
                    self.assert_refused("BadCount", (turns,), walk.turned, turns)
                    self.assert_refused("BadCount", (turns,), lambda: walk**turns)

    def test_15_of_unequal_works(self):
        passages = ["a", "b", "c"]
        work = Work("w", passages)
        for other_work in (Work("v", passages), Work("w", ["a", "b"]), Work("w", ["a", "c", "b"])):
            for rows in ([], [[0]], [[1], [0, 1]]):
                walk, foreign = walk_of(work, *rows), walk_of(other_work, *rows)
                for one, other in ((walk, foreign), (foreign, walk)):
                    self.assert_refused("OtherWork", (), lambda: one >> other)
                    self.assert_refused("OtherWork", (), lambda: one <= other)
                    self.assert_refused("OtherWork", (), lambda: one < other)
                    self.assert_refused("OtherWork", (), one.parted, other)


class TestJoined(LeafCase):
    def test_15_one_behind_the_other(self):
        for length, rows in some_rows():
            for many in range(min(len(rows), 4) + 1):
                one, other = walk_of(work_of(length), *rows[:many]), walk_of(work_of(length), *rows[many:])
                joined = one >> other
                self.assertIs(type(joined), Walk)
                self.assertEqual([numbers_of(edition) for edition in joined.editions()], rows)
                self.assert_same(joined.table(), plain_table(rows, length))
                self.assert_same(joined.table(), [other(one(cut)) for cut in range(length + 1)])
                self.assertEqual((len(one), len(other)), (many, len(rows) - many))

    def test_15_turned(self):
        for length, rows in some_rows():
            walk = walk_of(work_of(length), *rows)
            for turns in (0, 1, 2, 3, 200 // max(1, len(rows))):
                for turned in (walk.turned(turns), walk**turns):
                    self.assertIs(type(turned), Walk)
                    self.assertEqual([numbers_of(edition) for edition in turned.editions()], rows * turns)
                    self.assert_same(len(turned), len(rows) * turns)
                    self.assert_same(turned.table(), plain_table(rows * turns, length))
            self.assert_same(len(walk), len(rows))

    def test_15_turned_never_and_turned_without_editions(self):
        work = work_of(5)
        for walk in (walk_of(work, [1], [0, 3]).turned(0), walk_of(work, [1]) ** 0, Walk(work, []).turned(200)):
            self.assert_same(walk.editions(), [])
            self.assert_same(walk.table(), [0, 1, 2, 3, 4, 5])


class TestCompared(LeafCase):
    def test_15_all_walks_of_up_to_two_editions(self):
        work, rows = work_of(3), [[]]
        rows += [[one] for one in subsets(3)] + [[one, other] for one in subsets(3) for other in subsets(3)]
        walks = [(walk_of(work, *row), plain_table(row, 3)) for row in rows]
        for one, mine in walks:
            for other, yours in walks:
                below = all(here <= there for here, there in zip(mine, yours))
                unlike = [cut for cut in range(4) if mine[cut] != yours[cut]]
                self.assertIs(one == other, mine == yours)
                self.assertIs(one != other, mine != yours)
                self.assertIs(one <= other, below)
                self.assertIs(one < other, below and mine != yours)
                self.assert_same(one.parted(other), unlike[0] if unlike else None)

    def test_15_equal_walks_of_unlike_editions(self):
        work = work_of(4)
        one = walk_of(work, [0, 1], [1, 2])
        self.assert_equal_things(one, one)
        self.assert_equal_things(Walk(work, []), walk_of(work_of(4), [0, 1, 2, 3], [0, 1, 2, 3]))
        self.assert_equal_things(walk_of(work, [], [2]), walk_of(work_of(4), []))
        self.assert_unlike_things(walk_of(work, [0, 2], [1, 3]), walk_of(work, [1, 3], [0, 2]))

    def test_15_walks_of_unequal_works_are_unlike(self):
        passages = ["a", "b", "c"]
        work = Work("w", passages)
        for other in (Work("v", passages), Work("w", ["a", "b"]), Work("w", ["a", "c", "b"])):
            for rows in ([], [[]], [[0]], [[0, 1]]):
                self.assert_unlike_things(walk_of(work, *rows), walk_of(other, *rows))

    def test_15_a_walk_equals_nothing_else(self):
        work = work_of(2)
        for walk in (Walk(work, []), Walk(work, [work.whole()]), walk_of(work, [])):
            things = [work, work.whole(), Place(work.whole(), 0), Walk, walk.table(), tuple(walk.table()), [work.whole()]]
            for thing in anything() + things:
                self.assert_unlike_things(walk, thing)

    def test_15_parted_is_the_least_cut(self):
        work = work_of(5)
        one = Walk(work, [])
        self.assert_same(one.parted(walk_of(work, [])), 1)
        self.assert_same(one.parted(walk_of(work, [0, 1, 4])), 3)
        self.assert_same(one.parted(walk_of(work, [0, 1, 2, 3])), 5)
        self.assert_same(one.parted(Walk(work, [work.whole()])), None)
        self.assert_same(Walk(work, [work.whole()]).parted(other=one), None)


class TestShortest(LeafCase):
    def assert_shortest(self, length, rows):
        wanted = plain_table(rows, length)
        for kept in subsets(len(rows)):
            if plain_table([rows[number] for number in kept], length) == wanted:
                break
        self.assert_same(walk_of(work_of(length), *rows).shortest(), kept)

    def test_16_held_against_a_plain_search(self):
        chance = random.Random(16)
        for length, many in [(1, 3), (2, 4), (3, 3), (3, 5), (4, 4), (4, 6), (5, 5), (6, 4), (6, 7)] * 6:
            self.assert_shortest(length, chance_rows(chance, length, many))

    def test_16_of_few_kinds_of_editions(self):
        chance = random.Random(61)
        for _ in range(20):
            kinds = chance_rows(chance, 4, 3)
            self.assert_shortest(4, [chance.choice(kinds) for _ in range(7)])

    def test_16_all_walks_of_three_editions(self):
        for rows in itertools.product(subsets(3), repeat=3):
            self.assert_shortest(3, list(rows))

    def test_16_edges(self):
        work = work_of(4)
        self.assert_same(Walk(work, []).shortest(), [])
        self.assert_same(walk_of(work, [0, 1, 2, 3], [0, 1, 2, 3]).shortest(), [])
        self.assert_same(walk_of(work, [0, 2], [0, 2]).shortest(), [0])
        self.assert_same(walk_of(work, [0, 1, 2, 3], [0, 2], [0, 2]).shortest(), [1])
        self.assert_same(walk_of(work, [1], [], [1], []).shortest(), [1])
        self.assert_same(walk_of(work, [1, 3], [0, 2], [1, 3], [0, 2]).shortest(), [0, 1, 2, 3])

    def test_16_numbers_and_not_editions_are_in_order(self):
        work = work_of(4)
        walk = walk_of(work, [1, 3], [1, 3], [0, 2], [0, 2])
        self.assert_same(walk.shortest(), [0, 2])
        self.assert_same(len(walk), 4)

    def test_16_of_ten_editions(self):
        chance = random.Random(10)
        for _ in range(4):
            self.assert_shortest(6, chance_rows(chance, 6, 10))
        rows = [[number for number in range(10) if number != out] for out in range(10)]
        self.assert_same(walk_of(work_of(10), *rows).shortest(), list(range(10)))


class TestRests(LeafCase):
    def test_17_every_cut(self):
        for length, rows in some_rows():
            walk = walk_of(work_of(length), *rows)
            ways = [plain_turns(rows, cut) for cut in range(length + 1)]
            for cut, way in enumerate(ways):
                self.assert_same(walk.rest(cut), way[-1])
                self.assert_same(walk.turns(cut), len(way) - 1)
            most = max(len(way) - 1 for way in ways)
            least = [len(way) - 1 for way in ways].index(most)
            self.assert_same(walk.longest(), (most, least))

    def test_17_all_walks_of_two_editions(self):
        work = work_of(4)
        for one, other in itertools.product(subsets(4), repeat=2):
            walk = walk_of(work, one, other)
            ways = [plain_turns([one, other], cut) for cut in range(5)]
            self.assert_same([walk.rest(cut) for cut in range(5)], [way[-1] for way in ways])
            self.assert_same([walk.turns(cut) for cut in range(5)], [len(way) - 1 for way in ways])
            most = max(len(way) - 1 for way in ways)
            self.assert_same(walk.longest(), (most, [len(way) - 1 for way in ways].index(most)))

    def test_17_the_rest_does_not_hang_on_the_order(self):
        for length, rows in some_rows():
            common = [number for number in range(length) if all(number in numbers for numbers in rows)]
            for ordered in (rows, rows[::-1], sorted(rows)):
                walk = walk_of(work_of(length), *ordered)
                for cut in range(length + 1):
                    self.assert_same(walk.rest(cut), plain_kernel(common, cut))

    def test_17_what_rests(self):
        walk = Walk(work_of(3), [])
        self.assert_same([walk.rest(cut) for cut in range(4)], [0, 1, 2, 3])
        self.assert_same([walk.turns(cut) for cut in range(4)], [0, 0, 0, 0])
        self.assert_same(walk.longest(), (0, 0))

    def test_17_turns_are_of_the_walk_and_not_of_its_editions(self):
        walk = walk_of(work_of(4), [1, 3], [0, 2])
        self.assert_same([walk.turns(cut) for cut in range(5)], [0, 1, 2, 2, 3])
        self.assert_same(walk.longest(), (3, 4))
        self.assert_same(walk.turned(2).longest(), (2, 4))
        self.assert_same(walk.turned(3).longest(), (1, 1))

    def test_17_the_least_cut_that_takes_so_many(self):
        walk = walk_of(work_of(6), [0, 2, 4])
        self.assert_same(walk.longest(), (1, 2))
        self.assert_same(walk_of(work_of(6), [0, 2, 4, 5]).longest(), (1, 2))
        self.assert_same(walk_of(work_of(6), [0, 1, 2, 3, 4]).longest(), (1, 6))


if __name__ == "__main__":
    unittest.main()
