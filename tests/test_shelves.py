"""Promise 38: shelves."""

import copy
import unittest

from leafmarks.places import Place
from leafmarks.rules import Rule
from leafmarks.shelves import Device, Shelf
from leafmarks.works import Edition, Work
from tests.helpers import HUGE, LeafCase, anything, work_of
from tests.telling import field_with, rule_with

TWO = Rule([field_with("a"), field_with("b", read="no")], ("field", "a"))
NOTHING = rule_with("stay", read="no", jump="no", anew="no", give="no", take="no")


def put(shelf, work, values):
    shelf[work] = values


class TestShelf(LeafCase):
    def test_38_it_has_its_rule(self):
        for rule in (Rule.furthest(), TWO):
            self.assert_equal_things(Shelf(rule).rule, rule)
            self.assert_equal_things(Shelf(rule=rule).rule, rule)

    def test_38_works_that_never_came(self):
        for rule, values in ((Rule.latest(), (0,)), (TWO, (0, 0))):
            shelf = Shelf(rule)
            for name in ("w", "v"):
                self.assert_same(shelf[work_of(3, name)], values)
                self.assert_same(shelf[work_of(3, name)], values)
            self.assert_same(shelf.works(), [])

    def test_38_put_by_hand(self):
        work, shelf = work_of(5), Shelf(TWO)
        for values in ([0, 0], [5, 0], (0, 5), [3, 3], (5, 5), [2, 4]):
            shelf[work] = values
            self.assert_same(shelf[work], tuple(values))
            self.assert_same(shelf[work_of(5)], tuple(values))
        self.assertEqual(len(shelf.works()), 1)
        self.assert_equal_things(shelf.works()[0], work)

    def test_38_equal_works_are_one_and_unequal_ones_are_not(self):
        shelf = Shelf(Rule.latest())
        works = [Work("w", ["a", "b"]), Work("v", ["a", "b"]), Work("w", ["b", "a"]), Work("w", ["a"]), Work("w", ["a", "b", "c"])]
        for number, work in enumerate(works):
            shelf[work] = [number % 2]
        for number, work in enumerate(works):
            self.assert_same(shelf[Work(work.name, work.passages())], (number % 2,))
        shelf[Work("w", ["a", "b"])] = [2]
        self.assert_same([shelf[work] for work in works], [(2,), (1,), (0,), (1,), (0,)])
        self.assertEqual(shelf.works(), works)

    def test_38_behind_deeds(self):
        work = work_of(4)
        shelf = Shelf(TWO)
        device = shelf.device([work.whole()])
        device.read(3)
        self.assert_same((shelf[work], shelf.works()), ((0, 0), []))
        device.take()
        self.assert_same((shelf[work], shelf.works()), ((0, 0), []))
        device.read(2)
        device.give()
        self.assert_same(shelf[work_of(4)], (2, 0))
        self.assertEqual(shelf.works(), [work])
        shelf[work] = [1, 4]
        self.assert_same(shelf[work], (1, 4))
        device.take()
        self.assert_same(device.marks(), [(1, 4)])
        self.assert_same(device.place.count, 1)

    def test_38_works_in_the_order_in_which_they_came_first(self):
        one, two, three, four = [work_of(2, name) for name in ("z", "a", "m", "b")]
        shelf = Shelf(Rule.latest())
        first, second = shelf.device([three.whole(), two.whole()]), shelf.device([four.whole(), three.whole()])
        shelf[one] = [1]
        first.give()
        shelf[two] = [0]
        second.give()
        shelf[one] = [0]
        first.give()
        self.assertEqual(shelf.works(), [one, three, two, four])
        shelf[work_of(2, "c")] = (0,)
        self.assertEqual(shelf.works(), [one, three, two, four, work_of(2, "c")])

    def test_38_a_mark_that_says_nothing_comes_too(self):
        work, shelf = work_of(2), Shelf(NOTHING)
        shelf.device([Edition(work, [])]).give()
        self.assertEqual(shelf.works(), [work])
        other = Shelf(NOTHING)
        other[work] = [0]
        self.assertEqual(other.works(), [work])

    def test_38_a_device_that_is_made_brings_nothing(self):
        shelf = Shelf(Rule.latest())
        device = shelf.device([work_of(2).whole()])
        self.assertIs(type(device), Device)
        self.assertIs(device.shelf, shelf)
        device.jump(Place(work_of(2).whole(), 1))
        device.anew()
        device.show(Edition(work_of(2), []))
        self.assertEqual(shelf.works(), [])

    def test_38_put_by_hand_is_later_than_all_others(self):
        work = work_of(5)
        shelf = Shelf(rule_with("stay", give="later", take="later"))
        one, other = [shelf.device([work.whole()]) for _ in range(2)]
        one.read(3)
        shelf[work] = [1]
        one.give()
        self.assert_same(shelf[work], (1,))
        one.take()
        self.assert_same(one.marks(), [(1,)])
        other.read(2)
        other.take()
        self.assert_same(other.marks(), [(2,)])
        other.give()
        self.assert_same(shelf[work], (2,))
        shelf[work] = (4,)
        other.give()
        self.assert_same(shelf[work], (4,))

    def test_38_put_by_hand_is_later_than_what_comes_of_other_works(self):
        work, foreign = work_of(5), work_of(5, "v")
        shelf = Shelf(rule_with("stay", give="later", take="later"))
        device = shelf.device([work.whole(), foreign.whole()])
        shelf[work] = [1]
        device.jump(Place(foreign.whole(), 3))
        device.take()
        self.assert_same(device.marks(), [(1,), (3,)])
        shelf[foreign] = [2]
        device.give()
        self.assert_same((shelf[work], shelf[foreign]), ((1,), (2,)))


class TestMarksRefused(LeafCase):
    def assert_bad(self, shelf, work, values):
        self.assert_refused("BadMark", (values,), put, shelf, work, values)

    def test_38_no_list(self):
        work = work_of(4)
        for rule in (Rule.latest(), TWO):
            shelf = Shelf(rule)
            shelf[work] = [2] * len(rule.fields())
            for thing in anything() + [work, work.whole(), {0: 1}]:
                self.assert_bad(shelf, work, thing)
            self.assert_same(shelf[work], (2,) * len(rule.fields()))

    def test_38_too_few_and_too_many(self):
        for rule in (Rule.latest(), TWO):
            many = len(rule.fields())
            for length in range(5):
                if length != many:
                    self.assert_bad(Shelf(rule), work_of(4), [0] * length)
                    self.assert_bad(Shelf(rule), work_of(4), (1,) * length)

    def test_38_values_that_are_no_cuts_of_the_work(self):
        shelf = Shelf(TWO)
        for length in (1, 4, 60):
            work = work_of(length)
            for thing in [length + 1, -1, HUGE, -HUGE, True, False, None, "1", "a", [], (0,), [1], {}]:
                self.assert_bad(shelf, work, [thing, 0])
                self.assert_bad(shelf, work, (0, thing))
                self.assert_bad(shelf, work, [thing, thing])
            shelf[work] = [length, 0]
        self.assert_bad(shelf, work_of(1), (2, 0))

    def test_38_refused_it_keeps_nothing(self):
        work, shelf = work_of(3), Shelf(rule_with("stay", give="later", take="later"))
        device = shelf.device([work.whole()])
        self.assert_bad(shelf, work, [4])
        self.assertEqual(shelf.works(), [])
        shelf[work] = [1]
        device.read(2)
        self.assert_bad(shelf, work, [9])
        # Nor does it become later.
        device.give()
        self.assert_same(shelf[work], (2,))

    def test_38_the_very_object_is_kept(self):
        mark = [7, [None]]
        for _ in range(2):
            with self.assertRaises(ValueError) as caught:
                put(Shelf(TWO), work_of(3), mark)
            self.assertIs(caught.exception.mark, mark)
        self.assertEqual(mark, [7, [None]])


class TestApart(LeafCase):
    def test_3_one_shelf_is_not_another_one(self):
        work = work_of(3)
        one, other = Shelf(Rule.latest()), Shelf(Rule.latest())
        one[work] = [2]
        self.assert_same((one[work], other[work]), ((2,), (0,)))
        self.assert_same(other.works(), [])
        device, foreign = one.device([work.whole()]), other.device([work.whole()])
        device.read(3)
        device.give()
        foreign.take()
        self.assert_same((foreign.marks(), foreign.place.count), ([(0,)], 0))

    def test_3_one_device_is_not_another_one(self):
        work = work_of(3)
        shelf = Shelf(Rule.latest())
        one, other = shelf.device([work.whole()]), shelf.device([work.whole()])
        one.read(2)
        self.assert_same((one.marks(), other.marks()), ([(2,)], [(0,)]))
        self.assert_same((one.place.count, other.place.count), (2, 0))
        one.away(lambda: self.assert_false(other.is_away()))

    def test_3_what_is_put_by_hand_may_be_changed(self):
        work, shelf = work_of(3), Shelf(TWO)
        values = [1, 2]
        shelf[work] = values
        values[0] = 3
        values.clear()
        self.assert_same(shelf[work], (1, 2))

    def test_3_what_is_put_by_hand_is_not_changed(self):
        work, shelf = work_of(3), Shelf(TWO)
        values = [1, 2]
        shelf[work] = values
        device = shelf.device([work.whole()])
        device.read(3)
        device.give()
        self.assertEqual(values, [1, 2])

    def test_3_the_list_of_works_may_be_changed(self):
        work, shelf = work_of(3), Shelf(TWO)
        shelf[work] = [1, 2]
        shelf.works().clear()
        shelf.works().append(None)
        self.assertEqual(shelf.works(), [work])
        self.assertIsNot(shelf.works(), shelf.works())

    def test_3_refused_objects_are_not_changed(self):
        shelf = Shelf(TWO)
        for thing in anything():
            as_it_was = copy.deepcopy(thing)
            self.assert_refused("BadMark", (thing,), put, shelf, work_of(3), thing)
            self.assert_same(thing, as_it_was)


if __name__ == "__main__":
    unittest.main()
