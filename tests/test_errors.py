"""Promise 50: the errors and their fields."""

import copy
import unittest

from leafmarks import errors
from leafmarks.errors import BadCount, BadCut, BadRule, BadSize, BadWord, LeafError
from leafmarks.places import Place
from leafmarks.walks import Walk
from leafmarks.works import Edition, Work
from tests.helpers import FIELDS, LeafCase, anything, work_of


class TestErrors(LeafCase):
    def test_50_the_base_of_all(self):
        self.assertEqual(LeafError.__bases__, (ValueError,))
        with self.assertRaises(ValueError):
            raise LeafError()

    def test_50_there_are_seventeen(self):
        self.assertEqual(len(FIELDS), 17)
        told = [
            name
            for name, thing in vars(errors).items()
            if isinstance(thing, type) and issubclass(thing, LeafError) and thing is not LeafError
        ]
        self.assertEqual(sorted(told), sorted(FIELDS))

    def test_50_each_is_a_direct_subclass_of_its_own(self):
        for name in FIELDS:
            kind = getattr(errors, name)
            self.assertEqual(kind.__bases__, (LeafError,), name)
            self.assertEqual(kind.__name__, name)
            self.assertEqual(kind.__module__, "leafmarks.errors")

    def test_50_fields_by_position_are_the_very_objects(self):
        for name, fields in FIELDS.items():
            for thing in anything():
                error = getattr(errors, name)(*[thing for _ in fields])
                for field in fields:
                    self.assertIs(getattr(error, field), thing)

    def test_50_fields_by_name_are_the_very_objects(self):
        for name, fields in FIELDS.items():
            for thing in anything():
                error = getattr(errors, name)(**{field: thing for field in fields})
                for field in fields:
                    self.assertIs(getattr(error, field), thing)

    def test_50_a_rule_has_two_fields_in_their_order(self):
        index, reason = [1, {"a": (2,)}], ["name"]
        for error in (
            BadRule(index, reason),
            BadRule(index, reason=reason),
            BadRule(index=index, reason=reason),
            BadRule(reason=reason, index=index),
        ):
            self.assertIs(error.index, index)
            self.assertIs(error.reason, reason)

    def test_50_those_without_fields_take_nothing(self):
        for name in ("OtherWork", "BadSetting", "Away"):
            kind = getattr(errors, name)
            with self.assertRaises(kind):
                raise kind()

    def test_50_objects_that_are_kept_are_not_changed(self):
        for name, fields in FIELDS.items():
            for thing in anything():
                as_it_was = copy.deepcopy(thing)
                getattr(errors, name)(*[thing for _ in fields])
                self.assert_same(thing, as_it_was)

    def test_50_later_changes_are_seen_in_an_error(self):
        mark = [1, [2]]
        error = errors.BadMark(mark)
        mark[1].append(3)
        mark.append(4)
        self.assertEqual(error.mark, [1, [2, 3], 4])

    def test_50_each_can_be_raised_and_caught_by_each_base(self):
        for name, fields in FIELDS.items():
            for base in (getattr(errors, name), LeafError, ValueError):
                with self.assertRaises(base) as caught:
                    raise getattr(errors, name)(*[None for _ in fields])
                self.assertIs(type(caught.exception), getattr(errors, name))

    def test_50_none_is_caught_as_another(self):
        for name, fields in FIELDS.items():
            error = getattr(errors, name)(*["x" for _ in fields])
            for other in FIELDS:
                self.assertEqual(isinstance(error, getattr(errors, other)), name == other)


class TestRefusedObjects(LeafCase):
    """Those that are raised keep the very object that was refused."""

    def assert_kept(self, kind, field, thing, call):
        with self.assertRaises(kind) as caught:
            call()
        self.assertIs(getattr(caught.exception, field), thing)

    def test_50_of_a_name(self):
        for thing in anything():
            if thing not in ("a", "b", "z", "abcdefgh"):
                self.assert_kept(BadWord, "word", thing, lambda: Work(thing, ["a"]))

    def test_50_of_a_count(self):
        edition = work_of(5).whole()
        for thing in anything():
            if isinstance(thing, bool) or thing not in (0, 1, 2, 5):
                self.assert_kept(BadCount, "count", thing, lambda: edition.cut_behind(thing))
                self.assert_kept(BadCount, "count", thing, lambda: Place(edition, thing))

    def test_50_of_a_cut(self):
        edition = Edition(work_of(5), [])
        walk = Walk(edition.work, [edition])
        for thing in anything():
            if isinstance(thing, bool) or thing not in (0, 1, 2, 5):
                for call in (edition.count_at, edition.kernel, walk, walk.rest, walk.turns):
                    self.assert_kept(BadCut, "number", thing, lambda: call(thing))

    def test_50_of_turns(self):
        walk = Walk(work_of(2), [])
        for thing in anything():
            if isinstance(thing, bool) or not isinstance(thing, int) or thing < 0:
                self.assert_kept(BadCount, "count", thing, lambda: walk.turned(thing))
                self.assert_kept(BadCount, "count", thing, lambda: walk**thing)

    def test_50_of_a_size(self):
        place = Place(work_of(5).whole(), 3)
        for size in (0, -1, -7, -(10**59)):
            self.assert_kept(BadSize, "size", size, lambda: place // size)
            self.assert_kept(BadSize, "size", size, lambda: place % size)


if __name__ == "__main__":
    unittest.main()
