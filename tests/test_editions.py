"""Promises 7 to 9: editions, cuts and kernels."""

import itertools
import unittest

from leafmarks.places import Place
from leafmarks.walks import Walk
from leafmarks.works import Edition, Work
from tests.helpers import (
    HUGE,
    LeafCase,
    all_editions,
    anything,
    edition_of,
    integers,
    letters,
    numbers_of,
    others,
    plain_kernel,
    subsets,
    work_of,
)


class TestTold(LeafCase):
    def test_8_what_an_edition_tells(self):
        work = Work("w", ["d", "a", "c", "b"])
        edition = Edition(work, ["a", "b"])
        self.assert_equal_things(edition.work, work)
        self.assert_same(edition.passages(), ["a", "b"])
        self.assert_same(len(edition), 2)

    def test_8_every_edition_of_a_work(self):
        work = work_of(5)
        for numbers in subsets(5):
            words = [letters(5)[number] for number in numbers]
            for passages in (words, tuple(words)):
                edition = Edition(work, passages)
                self.assert_same(edition.passages(), words)
                self.assert_same(len(edition), len(words))
                for word in letters(7):
                    self.assertIs(word in edition, word in words)
                    self.assertIs(word not in edition, word not in words)

    def test_8_in_tells_of_any_object(self):
        work = work_of(5)
        edition = edition_of(work, [1, 3])
        things = others() + integers() + ["w", "".join(letters(5)), letters(5)]
        for thing in things + [work, edition, Place(edition, 1), Walk(work, [edition])]:
            self.assert_false(thing in edition)
            self.assert_false(thing in Edition(work, []))

    def test_8_the_empty_edition(self):
        empty = Edition(work_of(3), [])
        self.assert_same(empty.passages(), [])
        self.assert_same(len(empty), 0)
        self.assert_equal_things(empty, Edition(work_of(3), ()))


class TestRefused(LeafCase):
    def test_8_passages_that_are_no_list(self):
        work = Work("w", ["a", "b"])
        for thing in (None, True, False, 0, 1, -1, HUGE, "", "a", "ab", {}, {"a": "b"}):
            self.assert_refused("BadPassage", (0,), Edition, work, thing)
        for thing in (work, work.whole(), Edition(work, []), Walk(work, [])):
            self.assert_refused("BadPassage", (0,), Edition, work, thing)

    def test_8_a_thing_that_is_no_passage(self):
        work = Work("w", ["a", "b", "c", "d"])
        things = others() + integers() + ["w", "e", "ab", ["a"], ("b",), work, work.whole()]
        for thing in things:
            for ahead in range(5):
                passages = ["a", "b", "c", "d"][:ahead] + [thing]
                self.assert_refused("BadPassage", (ahead,), Edition, work, passages)
                self.assert_refused("BadPassage", (ahead,), Edition, work, tuple(passages) + ("d", 3))

    def test_8_a_passage_that_does_not_stand_behind(self):
        work = Work("w", ["d", "a", "c", "b"])
        self.assert_refused("BadPassage", (1,), Edition, work, ["a", "d"])
        self.assert_refused("BadPassage", (1,), Edition, work, ["d", "d"])
        self.assert_refused("BadPassage", (2,), Edition, work, ["d", "b", "c"])
        self.assert_refused("BadPassage", (3,), Edition, work, ["d", "a", "b", "a"])
        self.assert_refused("BadPassage", (4,), Edition, work, ["d", "a", "c", "b", "d"])

    def test_8_each_row_of_passages(self):
        work = work_of(3)
        for length in range(5):
            for numbers in itertools.product(range(4), repeat=length):
                words = [letters(4)[number] for number in numbers]
                wrong = [
                    index
                    for index, number in enumerate(numbers)
                    if number == 3 or (index > 0 and number <= numbers[index - 1])
                ]
                if wrong:
                    self.assert_refused("BadPassage", (wrong[0],), Edition, work, words)
                else:
                    self.assert_same(Edition(work, words).passages(), words)

    def test_8_the_first_of_several_wrong_passages(self):
        work = Work("w", ["a", "b", "c"])
        self.assert_refused("BadPassage", (0,), Edition, work, ["x", "b", "a"])
        self.assert_refused("BadPassage", (1,), Edition, work, ["b", "a", "x"])
        self.assert_refused("BadPassage", (1,), Edition, work, ["b", None, "a"])
        self.assert_refused("BadPassage", (1,), Edition, work=work, passages=["c", "c", {}])


class TestEqual(LeafCase):
    def test_8_equal_editions(self):
        for one in all_editions(work_of(3)):
            for other in all_editions(work_of(3)):
                if one.passages() == other.passages():
                    self.assert_equal_things(one, other)
                else:
                    self.assert_unlike_things(one, other)
            self.assert_equal_things(one, one)

    def test_8_editions_of_unlike_works(self):
        edition = Edition(Work("w", ["a", "b", "c"]), ["a", "b"])
        for work in (Work("v", ["a", "b", "c"]), Work("w", ["a", "b"]), Work("w", ["a", "c", "b"])):
            self.assert_unlike_things(edition, Edition(work, ["a", "b"]))

    def test_8_an_edition_equals_nothing_else(self):
        work = Work("w", ["a", "b"])
        for edition in (work.whole(), Edition(work, []), Edition(work, ["a"])):
            for thing in anything() + [work, ["a"], ("a", "b"), Place(edition, 0), Walk(work, [edition]), Edition]:
                self.assert_unlike_things(edition, thing)


class TestJoined(LeafCase):
    def test_8_all_pairs_of_editions(self):
        ones = all_editions(work_of(4))
        for one in ones:
            for other in all_editions(work_of(4)):
                mine, yours = set(numbers_of(one)), set(numbers_of(other))
                for edition, numbers in (
                    (one & other, mine & yours),
                    (one | other, mine | yours),
                    (one - other, mine - yours),
                ):
                    self.assertIs(type(edition), Edition)
                    self.assert_equal_things(edition, edition_of(one.work, sorted(numbers)))
                    self.assert_equal_things(edition.work, one.work)
                self.assertIs(one <= other, mine <= yours)
                self.assertIs(one < other, mine < yours)

    def test_8_what_is_joined_stays_as_it_is(self):
        work = work_of(4)
        one, other = edition_of(work, [0, 2]), edition_of(work, [1, 2])
        for edition in (one & other, one | other, one - other):
            self.assertIsNot(edition, one)
            self.assertIsNot(edition, other)
        self.assertEqual(numbers_of(one), [0, 2])
        self.assertEqual(numbers_of(other), [1, 2])

    def test_8_a_joined_edition_tells_its_own_cuts(self):
        one, other = edition_of(work_of(4), [0, 2]), edition_of(work_of(4), [1, 2])
        self.assertEqual([(one | other).kernel(cut) for cut in range(5)], [0, 1, 2, 3, 3])
        self.assertEqual([(one & other).kernel(cut) for cut in range(5)], [0, 0, 0, 3, 3])
        self.assertEqual([(one - other).kernel(cut) for cut in range(5)], [0, 1, 1, 1, 1])

    def test_8_of_unequal_works(self):
        passages = ["a", "b", "c"]
        one = Edition(Work("w", passages), ["a"])
        for work in (Work("v", passages), Work("w", ["a", "b"]), Work("w", ["a", "c", "b"])):
            for other in (Edition(work, ["a"]), Edition(work, []), Edition(work, ["a", "b"])):
                for first, second in ((one, other), (other, one)):
                    self.assert_refused("OtherWork", (), lambda: first & second)
                    self.assert_refused("OtherWork", (), lambda: first | second)
                    self.assert_refused("OtherWork", (), lambda: first - second)
                    self.assert_refused("OtherWork", (), lambda: first <= second)
                    self.assert_refused("OtherWork", (), lambda: first < second)


class TestCuts(LeafCase):
    def test_7_9_every_count_and_every_cut(self):
        work = work_of(6)
        for numbers in subsets(6):
            edition = edition_of(work, numbers)
            for count in range(len(numbers) + 1):
                self.assert_same(edition.cut_behind(count), numbers[count - 1] + 1 if count else 0)
            for cut in range(7):
                ahead = [number for number in numbers if number < cut]
                self.assert_same(edition.count_at(cut), len(ahead))
                self.assert_same(edition.kernel(cut), plain_kernel(numbers, cut))

    def test_9_the_kernel_comes_from_count_and_cut(self):
        for edition in all_editions(work_of(5)):
            for cut in range(6):
                self.assert_same(edition.kernel(cut), edition.cut_behind(edition.count_at(cut)))
                self.assertLessEqual(edition.kernel(cut), cut)
                self.assert_same(edition.kernel(edition.kernel(cut)), edition.kernel(cut))

    def test_7_9_the_empty_and_the_whole_edition(self):
        work = work_of(60)
        empty = Edition(work, [])
        self.assert_same(empty.cut_behind(0), 0)
        for cut in range(61):
            self.assert_same(empty.count_at(cut), 0)
            self.assert_same(empty.kernel(cut), 0)
            self.assert_same(work.whole().cut_behind(cut), cut)
            self.assert_same(work.whole().count_at(cut), cut)
            self.assert_same(work.whole().kernel(cut), cut)

    def test_7_9_counts_that_are_none(self):
        work = work_of(6)
        for numbers in ([], [0], [5], [1, 3, 4], [0, 1, 2, 3, 4, 5]):
            edition = edition_of(work, numbers)
            for count in [-1, len(numbers) + 1] + integers() + others():
                if isinstance(count, bool) or count not in range(len(numbers) + 1):
                    self.assert_refused("BadCount", (count,), edition.cut_behind, count)

    def test_7_9_cuts_that_are_none(self):
        for length in (1, 5, 6):
            work = work_of(length)
            for edition in (Edition(work, []), edition_of(work, [length - 1]), work.whole()):
                for cut in [-1, length + 1] + integers() + others() + letters(2):
                    if isinstance(cut, bool) or cut not in range(length + 1):
                        self.assert_refused("BadCut", (cut,), edition.count_at, cut)
                        self.assert_refused("BadCut", (cut,), edition.kernel, cut)


if __name__ == "__main__":
    unittest.main()
