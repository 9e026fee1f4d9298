"""Promises 10 to 13: places."""

import unittest

from leafmarks.places import Place
from leafmarks.walks import Walk
from leafmarks.works import Edition, Work
from tests.helpers import (
    HUGE,
    LeafCase,
    all_editions,
    anything,
    edition_of,
    integers,
    numbers_of,
    others,
    plain_kernel,
    work_of,
)


def all_places(work):
    return [Place(edition, count) for edition in all_editions(work) for count in range(len(edition) + 1)]


def unequal_works():
    """A work, and others that are each unlike it in one thing only."""
    passages = ["a", "b", "c"]
    return Work("w", passages), [Work("v", passages), Work("w", ["a", "b"]), Work("w", ["a", "c", "b"])]


class TestMade(LeafCase):
    def test_10_what_a_place_tells(self):
        for edition in all_editions(work_of(4)):
            numbers = numbers_of(edition)
            for count in range(len(edition) + 1):
                place = Place(edition, count)
                self.assert_equal_things(place.edition, edition)
                self.assert_same(place.count, count)
                self.assert_same(place.cut, numbers[count - 1] + 1 if count else 0)
                self.assert_same(place.cut, edition.cut_behind(count))

    def test_10_counts_that_are_none(self):
        work = work_of(5)
        for edition in (Edition(work, []), edition_of(work, [1, 3]), work.whole()):
            for count in [-1, len(edition) + 1] + integers() + others():
                if isinstance(count, bool) or count not in range(len(edition) + 1):
                    self.assert_refused("BadCount", (count,), Place, edition, count)
                    self.assert_refused("BadCount", (count,), Place, edition=edition, count=count)


class TestCompared(LeafCase):
    def test_11_all_pairs_of_places(self):
        ones, others_ = all_places(work_of(3)), all_places(work_of(3))
        for one in ones:
            for other in others_:
                self.assertIs(one < other, one.cut < other.cut)
                self.assertIs(one <= other, one.cut <= other.cut)
                self.assertIs(one > other, one.cut > other.cut)
                self.assertIs(one >= other, one.cut >= other.cut)
                if one.cut == other.cut:
                    self.assert_equal_things(one, other)
                else:
                    self.assert_unlike_things(one, other)

    def test_11_by_cuts_and_not_by_counts(self):
        work = work_of(4)
        late, early = Place(edition_of(work, [3]), 1), Place(edition_of(work, [0, 1, 2]), 2)
        self.assert_true(early < late)
        self.assert_true(early <= late)
        self.assert_true(late > early)
        self.assert_true(late >= early)
        self.assert_unlike_things(late, Place(work.whole(), 1))
        self.assert_equal_things(late, Place(work.whole(), 4))

    def test_11_of_unequal_works(self):
        work, unequal = unequal_works()
        for one in all_places(work):
            for other in [place for other in unequal for place in all_places(other)]:
                self.assert_unlike_things(one, other)
        for other_work in unequal:
            for one, other in ((Place(work.whole(), 1), Place(other_work.whole(), 1)),
                               (Place(other_work.whole(), 0), Place(work.whole(), 2))):
                self.assert_refused("OtherWork", (), lambda: one < other)
                self.assert_refused("OtherWork", (), lambda: one <= other)
                self.assert_refused("OtherWork", (), lambda: one > other)
                self.assert_refused("OtherWork", (), lambda: one >= other)

    def test_11_a_place_equals_nothing_else(self):
        work = work_of(2)
        for place in all_places(work):
            for thing in anything() + [work, place.edition, Walk(work, []), Place, (place.edition, place.count)]:
                self.assert_unlike_things(place, thing)


class TestMoved(LeafCase):
    def assert_moved(self, place, origin, count):
        self.assertIs(type(place), Place)
        self.assert_equal_things(place.edition, origin.edition)
        self.assert_same(place.count, count)

    def test_12_on_and_back_to_both_ends(self):
        for place in all_places(work_of(4)):
            for steps in list(range(-7, 8)) + [HUGE, -HUGE]:
                on = min(max(place.count + steps, 0), len(place.edition))
                back = min(max(place.count - steps, 0), len(place.edition))
                self.assert_moved(place + steps, place, on)
                self.assert_moved(steps + place, place, on)
                self.assert_moved(place - steps, place, back)

    def test_12_passages_of_the_edition_are_counted(self):
        edition = edition_of(work_of(6), [1, 2, 5])
        self.assert_same((Place(edition, 0) + 1).cut, 2)
        self.assert_same((2 + Place(edition, 1)).cut, 6)
        self.assert_same((Place(edition, 3) - 2).cut, 2)
        self.assert_same((Place(edition, 3) + -1).cut, 3)
        self.assert_same((Place(edition, 1) - -1).cut, 3)

    def test_12_the_place_that_is_moved_stays(self):
        place = Place(work_of(4).whole(), 2)
        for moved in (place + 1, 1 + place, place - 1):
            self.assertIsNot(moved, place)
        self.assert_same(place.count, 2)

    def test_12_moved_in_place_is_another_place(self):
        place = first = Place(work_of(4).whole(), 2)
        place += 1
        self.assert_same((first.count, place.count), (2, 3))
        place -= 3
        self.assert_same((first.count, place.count), (2, 0))


class TestSubtracted(LeafCase):
    def test_12_all_pairs_of_places(self):
        for one in all_places(work_of(3)):
            for other in all_places(work_of(3)):
                self.assert_same(one - other, one.cut - other.cut)
                self.assertEqual(other.cut + (one - other), one.cut)

    def test_12_of_unequal_works(self):
        work, unequal = unequal_works()
        for other in unequal:
            for one_place, other_place in ((Place(work.whole(), 1), Place(other.whole(), 1)),
                                           (Place(Edition(other, []), 0), Place(Edition(work, []), 0))):
                self.assert_refused("OtherWork", (), lambda: one_place - other_place)


class TestPages(LeafCase):
    def test_12_every_place_on_pages_of_every_size(self):
        for place in all_places(work_of(4)):
            for size in list(range(1, 7)) + [HUGE]:
                page, ahead = 0, place.count
                while ahead >= size:
                    page, ahead = page + 1, ahead - size
                self.assert_same(place // size, page)
                self.assert_same(place % size, ahead)

    def test_12_pages_are_of_the_edition(self):
        place = Place(edition_of(work_of(9), [0, 4, 5, 6, 8]), 5)
        self.assert_same((place // 2, place % 2), (2, 1))
        self.assert_same((place // 5, place % 5), (1, 0))
        self.assert_same((place // 6, place % 6), (0, 5))

    def test_12_sizes_below_one(self):
        for place in (Place(work_of(3).whole(), 2), Place(Edition(work_of(3), []), 0)):
            for size in (0, -1, -2, -HUGE):
                self.assert_refused("BadSize", (size,), lambda: place // size)
                self.assert_refused("BadSize", (size,), lambda: place % size)


class TestSeen(LeafCase):
    def test_13_every_place_in_every_edition(self):
        for place in all_places(work_of(3)):
            for edition in all_editions(work_of(3)):
                seen = place.seen(edition)
                self.assertIs(type(seen), Place)
                self.assert_equal_things(seen.edition, edition)
                ahead = [number for number in numbers_of(edition) if number < place.cut]
                self.assert_same(seen.count, len(ahead))
                self.assert_same(seen.cut, plain_kernel(numbers_of(edition), place.cut))
                self.assert_same(seen.cut, edition.kernel(place.cut))
                self.assert_true(seen <= place)

    def test_13_the_place_that_is_seen_stays(self):
        work = work_of(4)
        edition = edition_of(work, [0, 3])
        place = Place(edition, 2)
        place.seen(Edition(work, []))
        self.assert_equal_things(place.edition, edition)
        self.assert_same(place.count, 2)

    def test_13_of_unequal_works(self):
        work, unequal = unequal_works()
        for other in unequal:
            self.assert_refused("OtherWork", (), Place(work.whole(), 1).seen, other.whole())
            self.assert_refused("OtherWork", (), Place(other.whole(), 0).seen, edition=Edition(work, []))


if __name__ == "__main__":
    unittest.main()
