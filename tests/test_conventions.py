"""Promises 3 and 4: what holds of all calls."""

import copy
import unittest

from leafmarks.errors import LeafError
from leafmarks.places import Place
from leafmarks.walks import Walk, crossing, mended
from leafmarks.works import Edition, Work
from tests.helpers import LeafCase, anything, edition_of, letters, numbers_of, work_of


class TestArguments(LeafCase):
    def test_3_by_position_and_by_name(self):
        work = Work(passages=["a", "b", "c"], name="w")
        self.assert_equal_things(work, Work("w", ["a", "b", "c"]))
        self.assert_equal_things(work, Work("w", passages=["a", "b", "c"]))
        one = Edition(passages=["a", "c"], work=work)
        self.assert_equal_things(one, Edition(work, ["a", "c"]))
        self.assert_same(one.cut_behind(count=2), one.cut_behind(2))
        self.assert_same(one.count_at(cut=2), one.count_at(2))
        self.assert_same(one.kernel(cut=2), one.kernel(2))
        place = Place(count=1, edition=one)
        self.assert_equal_things(place, Place(one, 1))
        self.assert_equal_things(place.seen(edition=work.whole()), place.seen(work.whole()))

    def test_3_of_walks_by_position_and_by_name(self):
        work = Work("w", ["a", "b", "c"])
        one, other = Edition(work, ["a", "c"]), Edition(work, ["b"])
        walk = Walk(editions=[one, other], work=work)
        self.assert_equal_things(walk, Walk(work, [one, other]))
        self.assert_same(walk(cut=3), walk(3))
        self.assert_equal_things(walk.turned(turns=2), walk.turned(2))
        self.assert_same(walk.parted(other=Walk(work, [])), walk.parted(Walk(work, [])))
        self.assert_same(walk.rest(cut=3), walk.rest(3))
        self.assert_same(walk.turns(cut=3), walk.turns(3))
        self.assert_same(crossing(other=other, one=one), crossing(one, other))
        self.assert_same(mended(editions=[one, other]), mended([one, other]))

    def test_3_a_tuple_where_a_list_is_told(self):
        work = Work("w", ("a", "b", "c"))
        self.assert_same(work.passages(), ["a", "b", "c"])
        edition = Edition(work, ("a", "c"))
        self.assert_same(edition.passages(), ["a", "c"])
        walk = Walk(work, (edition, edition))
        self.assertIs(type(walk.editions()), list)
        self.assert_same(walk.table(), [0, 1, 1, 3])
        self.assert_same(mended((edition, Edition(work, ("b",)))), mended([edition, Edition(work, ["b"])]))

    def test_3_a_list_that_was_passed_is_not_changed(self):
        words, some = ["a", "b", "c"], ["a", "c"]
        work = Work("w", words)
        editions = [Edition(work, some), Edition(work, ["b"])]
        as_it_was = list(editions)
        walk = Walk(work, editions)
        walk.shortest(), walk.longest(), walk.turned(3), walk >> walk, walk.table()
        mended(editions)
        self.assertEqual((words, some), (["a", "b", "c"], ["a", "c"]))
        self.assertEqual(len(editions), 2)
        for one, other in zip(editions, as_it_was):
            self.assertIs(one, other)

    def test_3_a_refused_object_is_not_changed(self):
        work = work_of(3)
        walk = Walk(work, [])
        calls = [
            lambda thing: Work(thing, thing),
            lambda thing: Work("w", thing),
            lambda thing: Work("w", [thing, thing]),
            lambda thing: Edition(work, thing),
            lambda thing: Edition(work, [thing]),
            lambda thing: Place(work.whole(), thing),
            lambda thing: Walk(work, thing),
            lambda thing: Walk(work, [thing]),
            lambda thing: mended(thing),
            lambda thing: mended([work.whole(), thing]),
            work.whole().cut_behind,
            work.whole().count_at,
            work.whole().kernel,
            walk.rest,
            walk,
            walk.turns,
        ]
        for call in calls:
            for thing in anything():
                as_it_was = copy.deepcopy(thing)
                try:
                    call(thing)
                except LeafError:
                    pass
                self.assert_same(thing, as_it_was)

    def test_3_later_changes_have_no_effect(self):
        words, some = ["a", "b", "c"], ["a", "c"]
        work = Work("w", words)
        edition = Edition(work, some)
        editions = [edition, Edition(work, ["b"])]
        walk = Walk(work, editions)
        words[0] = "z"
        words.append("d")
        some.clear()
        editions.pop()
        editions.append(None)
        self.assert_same(work.passages(), ["a", "b", "c"])
        self.assert_same(len(work), 3)
        self.assert_true("a" in work)
        self.assert_false("z" in work)
        self.assert_same(work.whole().passages(), ["a", "b", "c"])
        self.assert_same(edition.passages(), ["a", "c"])
        self.assert_same((len(edition), edition.cut_behind(2), edition.count_at(3), edition.kernel(2)), (2, 3, 2, 1))
        self.assert_true("c" in edition)
        self.assert_equal_things(edition, Edition(Work("w", ["a", "b", "c"]), ["a", "c"]))
        self.assert_same(len(walk), 2)
        self.assertEqual([one.passages() for one in walk.editions()], [["a", "c"], ["b"]])
        self.assert_same(walk.table(), [0, 0, 0, 2])

    def test_3_what_was_returned_may_be_changed(self):
        work = Work("w", ["a", "b", "c"])
        edition = Edition(work, ["a", "c"])
        walk = Walk(work, [edition, Edition(work, ["b"])])
        for thing, told in ((work, ["a", "b", "c"]), (edition, ["a", "c"]), (work.whole(), ["a", "b", "c"])):
            thing.passages().append("z")
            thing.passages().clear()
            self.assert_same(thing.passages(), told)
            self.assert_same(len(thing), len(told))
        for empty in (Walk(work, []), walk):
            table, shortest, many = list(empty.table()), list(empty.shortest()), len(empty)
            for changed in (empty.table(), empty.editions(), empty.shortest()):
                changed.append(1)
                changed[0] = 9
                changed.reverse()
            self.assert_same((empty.table(), empty.shortest(), len(empty)), (table, shortest, many))
            self.assertEqual(len(empty.editions()), many)
        pairs = mended(walk.editions())
        told = list(pairs)
        pairs.clear()
        self.assert_same(mended(walk.editions()), told)

    def test_3_each_list_that_is_returned_is_a_new_one(self):
        work = work_of(3)
        walk = Walk(work, [work.whole(), edition_of(work, [1])])
        calls = (work.passages, work.whole().passages, walk.editions, walk.table, walk.shortest)
        for call in calls + (lambda: mended(walk.editions()),):
            self.assertIsNot(call(), call())

    def test_3_asked_again_the_same_is_told(self):
        work = work_of(5)
        one, other = edition_of(work, [0, 3]), edition_of(work, [1, 4])
        walk = Walk(work, [one, other])
        for _ in range(3):
            self.assert_same(walk.table(), [0, 0, 0, 0, 2, 2])
            self.assert_same(walk.longest(), (2, 4))
            self.assert_same(walk.shortest(), [0, 1])
            self.assert_same(crossing(one, other), 2)
            self.assert_same(mended([one, other]), [(0, 1), (0, 4)])


class TestRefusals(LeafCase):
    def test_4_a_refused_call_changes_nothing(self):
        work, foreign = work_of(4), work_of(4, "v").whole()
        one = edition_of(work, [1, 3])
        place, walk = Place(one, 1), Walk(work, [one, work.whole()])
        for call in (
            lambda: one.cut_behind(3),
            lambda: one.count_at(5),
            lambda: one.kernel(True),
            lambda: one & foreign,
            lambda: one | foreign,
            lambda: one - foreign,
            lambda: one <= foreign,
            lambda: one < foreign,
            lambda: place.seen(foreign),
            lambda: place - Place(foreign, 1),
            lambda: place < Place(foreign, 1),
            lambda: place // 0,
            lambda: place % -1,
            lambda: walk(5),
            lambda: walk.rest(-1),
            lambda: walk.turns("a"),
            lambda: walk.turned(-1),
            lambda: walk**False,
            lambda: walk >> Walk(foreign.work, [foreign]),
            lambda: walk <= Walk(foreign.work, []),
            lambda: walk.parted(Walk(foreign.work, [])),
            lambda: crossing(one, foreign),
            lambda: mended([one, foreign]),
        ):
            told = []
            for _ in range(2):
                with self.assertRaises(LeafError) as caught:
                    call()
                told.append((type(caught.exception), vars(caught.exception)))
            self.assertEqual(told[0], told[1])
            self.assert_same((work.name, work.passages()), ("w", letters(4)))
            self.assertEqual(numbers_of(one), [1, 3])
            self.assert_equal_things(one.work, work)
            self.assert_equal_things(place.edition, one)
            self.assert_same((place.count, place.cut), (1, 2))
            self.assertEqual([numbers_of(edition) for edition in walk.editions()], [[1, 3], [0, 1, 2, 3]])
            self.assert_same(walk.table(), [0, 0, 2, 2, 4])

    def test_4_a_refusal_in_place_leaves_what_was_there(self):
        work, foreign = work_of(4), work_of(4, "v").whole()
        edition = kept = edition_of(work, [1, 3])
        with self.assertRaises(LeafError):
            edition &= foreign
        with self.assertRaises(LeafError):
            edition |= foreign
        self.assertIs(edition, kept)
        walk = kept = Walk(work, [edition])
        with self.assertRaises(LeafError):
            walk **= -1
        with self.assertRaises(LeafError):
            walk >>= Walk(foreign.work, [])
        self.assertIs(walk, kept)

    def test_4_the_first_error_that_applies(self):
        self.assert_refused("BadWord", (3,), Work, 3, ["a", "a"])
        self.assert_refused("BadWord", (None,), Work, None, None)
        self.assert_refused("BadPassage", (1,), Work, "w", ["a", "a", 3])
        work = work_of(3)
        self.assert_refused("BadPassage", (1,), Edition, work, letters(2)[::-1] + ["A"])
        self.assert_refused("BadEdition", (1,), Walk, work, [work.whole(), work_of(2).whole(), 3])


if __name__ == "__main__":
    unittest.main()
