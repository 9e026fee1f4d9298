"""Promises 22 and 23: what each word does at each deed, held against what the tables say."""

import random
import unittest

from leafmarks.histories import played
from leafmarks.rules import Rule
from leafmarks.works import Edition
from tests.helpers import LeafCase, edition_of, plain_kernel, work_of
from tests.telling import WAYS, drawn_history, drawn_rule, field_with, rule_with, told_of

SHELF = -1


def last(rule, setting, history):
    """What stands behind the last deed of a history."""
    return played(rule, setting, history)[-1]


def value_of(who, rule, setting, history, at=0):
    """The value of a mark, a device's or the shelf's, behind a history."""
    return last(rule, setting, history)[1][who][at]


def settings_for(setting):
    """A number, and as many editions of all passages: they are read alike."""
    return [setting, [work_of(9).whole()] * setting]


class TestReading(LeafCase):
    def value(self, word, p, f, q):
        # The value f is another device's, which the one at p has taken, so both can be unlike.
        rule = rule_with("stay", read=word)
        history = [("jump", 1, f), ("give", 1), ("jump", 0, p), ("take", 0)]
        for setting in settings_for(2):
            self.assert_same(last(rule, setting, history)[0][0], p)
            self.assert_same(value_of(0, rule, setting, history), f)
        told = [last(rule, setting, history + [("read", 0, q)]) for setting in settings_for(2)]
        self.assertEqual(told[0], told[1])
        self.assert_same(told[0][0][0], q)
        return told[0][1][0][0]

    def test_22_no(self):
        for p, f, q in [(0, 0, 1), (3, 2, 6), (3, 3, 6), (3, 4, 6), (3, 6, 6), (3, 7, 6)]:
            self.assert_same(self.value("no", p, f, q), f)

    def test_22_last(self):
        for p, f, q in [(0, 0, 1), (3, 2, 6), (3, 3, 6), (3, 4, 6), (3, 6, 6), (3, 7, 6)]:
            self.assert_same(self.value("last", p, f, q), q)

    def test_22_raise(self):
        for p, f, q, told in [(0, 0, 1, 1), (3, 2, 6, 6), (3, 3, 6, 6), (3, 4, 6, 6), (3, 6, 6, 6), (3, 7, 6, 7)]:
            self.assert_same(self.value("raise", p, f, q), told)

    def test_22_row(self):
        for p, f, q, told in [(0, 0, 1, 1), (3, 2, 6, 2), (3, 3, 6, 6), (3, 4, 6, 6), (3, 6, 6, 6), (3, 7, 6, 7), (3, 0, 4, 0)]:
            self.assert_same(self.value("row", p, f, q), told)


class TestJumping(LeafCase):
    def value(self, word, p, f, q):
        rule = rule_with("stay", read="last", jump=word)
        # The value f is another device's, which the one at p has taken; both were read to.
        history = ([("read", 1, f)] if f else []) + [("give", 1)] + ([("read", 0, p)] if p else []) + [("take", 0)]
        for setting in settings_for(2):
            self.assert_same(value_of(0, rule, setting, history), f)
        told = [last(rule, setting, history + [("jump", 0, q)]) for setting in settings_for(2)]
        self.assertEqual(told[0], told[1])
        self.assert_same(told[0][0][0], q)
        return told[0][1][0][0]

    CASES = [(p, f, q) for p in (0, 3, 5) for f in (0, 2, 3, 5, 7) for q in (0, 2, 3, 4, 5, 8)]

    def test_22_no(self):
        for p, f, q in self.CASES:
            self.assert_same(self.value("no", p, f, q), f)

    def test_22_last(self):
        for p, f, q in self.CASES:
            self.assert_same(self.value("last", p, f, q), q)

    def test_22_raise(self):
        for p, f, q in self.CASES:
            self.assert_same(self.value("raise", p, f, q), max(f, q))

    def test_22_lower(self):
        for p, f, q in self.CASES:
            self.assert_same(self.value("lower", p, f, q), min(f, q))


class TestAnew(LeafCase):
    def test_22_no_and_least(self):
        for setting in settings_for(1):
            for f in (1, 4, 9):
                history = [("read", 0, f), ("anew", 0)]
                self.assert_same(last(rule_with(anew="no"), setting, history), ((0,), ((f,), (0,))))
                self.assert_same(last(rule_with(anew="least"), setting, history), ((0,), ((0,), (0,))))

    def test_22_the_place_is_the_beginning(self):
        for anew in ("no", "least"):
            for history in ([("anew", 0)], [("jump", 0, 3), ("anew", 0)], [("read", 0, 3), ("anew", 0), ("anew", 0)]):
                self.assert_same(last(rule_with(anew=anew), 1, history)[0], (0,))

    def test_22_the_shelf_and_other_devices_stay(self):
        history = [("read", 0, 3), ("give", 0), ("read", 1, 5), ("anew", 0)]
        self.assert_same(last(rule_with(), 2, history), ((0, 5), ((0,), (5,), (3,))))


class TestGiving(LeafCase):
    def value(self, word, s, f, shelf_is_later=False):
        """The shelf's value s, given by the device 1, met by the device 0's value f."""
        rule = rule_with("stay", give="last" if word != "later" else "later")
        deeds = ([("jump", 1, s), ("give", 1)], [("jump", 0, f)])
        history = deeds[1] + deeds[0] if shelf_is_later else deeds[0] + deeds[1]
        if word in ("last", "later"):
            return value_of(SHELF, rule, 2, history + [("give", 0)])
        # The shelf has its value by giving with the same word, from 0 on.
        rule = rule_with("stay", give=word)
        return value_of(SHELF, rule, 2, history + [("give", 0)])

    def test_23_no(self):
        for s in (0, 3):
            for f in (0, 2, 3, 4):
                self.assert_same(self.value("no", s, f), 0)

    def test_23_last(self):
        for s in (0, 3):
            for f in (0, 2, 3, 4):
                self.assert_same(self.value("last", s, f), f)
                self.assert_same(self.value("last", s, f, True), f)

    def test_23_raise(self):
        for s in (0, 3):
            for f in (0, 2, 3, 4):
                self.assert_same(self.value("raise", s, f), max(s, f))
                self.assert_same(self.value("raise", s, f, True), max(s, f))

    def test_23_later(self):
        for s in (1, 3):
            for f in (0, 2, 3, 4):
                self.assert_same(self.value("later", s, f), f)
                self.assert_same(self.value("later", s, f, True), s)

    def test_23_later_with_equal_stamps(self):
        # Behind the first give both stamps are equal: the second one tells nothing new.
        rule = Rule([field_with("f", give="later", take="last"), field_with("g", give="no", take="last")], ("stay", "f"))
        history = [("jump", 0, 4), ("give", 0), ("give", 0)]
        self.assert_same(value_of(SHELF, rule, 1, history), 4)
        # The device has taken the shelf's stamp, and its value is floored: equal stamps leave the shelf's value.
        work = work_of(4)
        floored = rule_with("stay", give="later", take="later", kept="floored")
        setting = [work.whole(), edition_of(work, [1])]
        history = [("jump", 0, 3), ("give", 0), ("take", 1), ("give", 1)]
        self.assert_same(last(floored, setting, history), ((3, 0), ((3,), (2,), (3,))))

    def test_23_a_device_that_never_did_anything_is_no_later(self):
        rule = rule_with("stay", anew="no", give="later")
        self.assert_same(value_of(SHELF, rule, 2, [("jump", 0, 2), ("give", 0), ("give", 1)]), 2)
        self.assert_same(value_of(SHELF, rule, 2, [("give", 1)]), 0)

    def test_23_giving_changes_no_device(self):
        for give in ("no", "last", "raise", "later"):
            history = [("read", 0, 2), ("jump", 1, 5), ("give", 1), ("give", 0)]
            self.assert_same(last(rule_with(give=give), 2, history)[0], (2, 5))
            self.assert_same(last(rule_with(give=give), 2, history)[1][:2], ((2,), (5,)))


class TestTaking(LeafCase):
    def value(self, word, f, s, shelf_is_later=True):
        rule = rule_with("stay", take=word)
        deeds = ([("jump", 0, f)], [("jump", 1, s), ("give", 1)])
        history = deeds[0] + deeds[1] if shelf_is_later else deeds[1] + deeds[0]
        for setting in settings_for(2):
            told = last(rule, setting, history + [("take", 0)])
            self.assert_same(told[0], (f, s))
            self.assert_same(told[1][1:], ((s,), (s,)))
        return told[1][0][0]

    PAIRS = [(f, s) for f in (0, 2, 4) for s in (0, 1, 2, 3, 4, 5)]

    def test_23_no(self):
        for f, s in self.PAIRS:
            self.assert_same(self.value("no", f, s), f)

    def test_23_last(self):
        for f, s in self.PAIRS:
            self.assert_same(self.value("last", f, s), s)
            self.assert_same(self.value("last", f, s, False), s)

    def test_23_raise(self):
        for f, s in self.PAIRS:
            self.assert_same(self.value("raise", f, s), max(f, s))
            self.assert_same(self.value("raise", f, s, False), max(f, s))

    def test_23_later(self):
        for f, s in self.PAIRS:
            self.assert_same(self.value("later", f, s), s)
            self.assert_same(self.value("later", f, s, False), f)

    def test_23_later_with_equal_stamps(self):
        # Nobody has read: a shelf of the same stamp is no later one.
        rule = rule_with("stay", take="later")
        self.assert_same(value_of(0, rule, 1, [("take", 0)]), 0)
        # The device gave its value, and the shelf raised it, its stamp being the device's: equal stamps take nothing.
        rule = rule_with("stay", give="raise", take="later")
        history = [("jump", 1, 5), ("give", 1), ("jump", 0, 2), ("give", 0), ("take", 0)]
        self.assert_same(last(rule, 2, history), ((2, 5), ((2,), (5,), (5,))))

    def test_23_stamps_over_several_deeds(self):
        rule = rule_with("stay", give="later", take="later")
        # The device 0 takes the later stamp of 1 with its value.
        history = [("jump", 0, 1), ("jump", 1, 2), ("give", 1), ("take", 0), ("give", 0)]
        self.assert_same(last(rule, 2, history), ((1, 2), ((2,), (2,), (2,))))
        # An older device that gives makes the shelf no older.
        history = [("jump", 0, 1), ("jump", 1, 2), ("give", 1), ("give", 0), ("jump", 2, 3), ("take", 2)]
        self.assert_same(last(rule, 3, history), ((1, 2, 3), ((1,), (2,), (3,), (2,))))
        # The shelf stays as late as the latest that gave, so a device between both takes.
        history = [("jump", 0, 1), ("jump", 2, 3), ("jump", 1, 2), ("give", 1), ("give", 0), ("take", 2)]
        self.assert_same(last(rule, 3, history), ((1, 2, 3), ((1,), (2,), (2,), (2,))))
        # A device that took an older mark stays as late as it was.
        history = [("jump", 1, 2), ("give", 1), ("jump", 0, 1), ("take", 0), ("give", 0)]
        self.assert_same(last(rule, 2, history), ((1, 2), ((1,), (2,), (1,))))

    def test_23_each_of_reading_jumping_and_beginning_makes_later(self):
        rule = rule_with("stay", give="later", anew="no")
        for deed, told in ((("read", 0, 7), 7), (("jump", 0, 1), 1), (("anew", 0), 5)):
            history = [("jump", 0, 5), ("jump", 1, 3), ("give", 1), deed, ("give", 0)]
            self.assert_same(value_of(SHELF, rule, 2, history), told)

    def test_23_taking_changes_neither_shelf_nor_other_devices(self):
        for take in ("no", "last", "raise", "later"):
            history = [("read", 0, 2), ("jump", 1, 5), ("give", 1), ("take", 0)]
            told = last(rule_with(take=take), 2, history)
            self.assert_same((told[0][1], told[1][1:]), (5, ((5,), (5,))))


class TestKept(LeafCase):
    def setUp(self):
        self.work = work_of(6)
        self.setting = [self.work.whole(), edition_of(self.work, [1, 3])]

    def test_23_floored_and_exact(self):
        for q in range(7):
            history = [("jump", 0, q), ("give", 0), ("take", 1)]
            for way in WAYS:
                told = last(rule_with(way, kept="exact"), self.setting, history)
                self.assert_same(told[1], ((q,), (q,), (q,)))
                told = last(rule_with(way, kept="floored"), self.setting, history)
                self.assert_same(told[1], ((q,), (plain_kernel([1, 3], q),), (q,)))

    def test_23_floored_behind_each_word_of_take(self):
        edition = edition_of(self.work, [1, 3])
        setting = [self.work.whole(), edition]
        history = [("jump", 0, 5), ("give", 0), ("jump", 1, 2), ("take", 1)]
        for take, told in (("no", 2), ("last", 4), ("raise", 4), ("later", 2)):
            rule = rule_with("stay", take=take, kept="floored")
            self.assert_same(value_of(1, rule, setting, history), told)
        history = [("jump", 1, 2), ("jump", 0, 3), ("give", 0), ("take", 1)]
        for take, told in (("no", 2), ("last", 2), ("raise", 2), ("later", 2)):
            rule = rule_with("stay", take=take, kept="floored")
            self.assert_same(value_of(1, rule, setting, history), told)

    def test_23_numbers_have_no_kernels(self):
        for q in (1, 5, 10**6):
            rule = rule_with("field", kept="floored")
            self.assert_same(last(rule, 2, [("jump", 0, q), ("give", 0), ("take", 1)]), ((q, q), ((q,), (q,), (q,))))


class TestShown(LeafCase):
    def place(self, way, p, v, setting):
        """The place of the device 1 that stood at p and has taken v."""
        history = [("jump", 0, v), ("give", 0), ("jump", 1, p), ("take", 1)]
        return last(rule_with(way), setting, history)[0][1]

    def test_23_each_way_with_the_value_below_at_and_above_the_place(self):
        for p in (0, 3, 5):
            for v in (0, 1, 3, 4, 5, 7):
                for setting in settings_for(2):
                    self.assert_same(self.place("stay", p, v, setting), p)
                    self.assert_same(self.place("field", p, v, setting), v)
                    self.assert_same(self.place("greater", p, v, setting), max(p, v))

    def test_23_kernels_are_shown(self):
        work = work_of(6)
        setting = [work.whole(), edition_of(work, [1, 3])]
        for p in (0, 2, 4):
            for v in range(7):
                k = plain_kernel([1, 3], v)
                self.assert_same(self.place("stay", p, v, setting), p)
                self.assert_same(self.place("field", p, v, setting), k)
                self.assert_same(self.place("greater", p, v, setting), max(p, k))

    def test_23_the_field_that_is_named(self):
        fields = [field_with("a"), field_with("b", jump="raise"), field_with("c", jump="no")]
        history = [("jump", 0, 5), ("jump", 0, 2), ("give", 0), ("take", 1)]
        for name, told in (("a", 2), ("b", 5), ("c", 0)):
            self.assert_same(last(Rule(fields, ("field", name)), 2, history), ((2, told), ((2, 5, 0),) * 3))

    def test_23_the_value_that_is_shown_was_kept_first(self):
        # Both are floored to the device's own edition, in which it then stands.
        work = work_of(6)
        setting = [work.whole(), edition_of(work, [2])]
        for kept, value in (("exact", 5), ("floored", 3)):
            told = last(rule_with(kept=kept), setting, [("jump", 0, 5), ("give", 0), ("take", 1)])
            self.assert_same(told, ((5, 3), ((5,), (value,), (5,))))


class TestHeld(LeafCase):
    def test_22_and_23_drawn_histories_by_a_plain_second_telling(self):
        chance = random.Random(2223)
        work = work_of(5)
        for turn in range(300):
            rule = drawn_rule(chance, 1 + turn % 3)
            many = chance.randint(1, 3)
            editions = [edition_of(work, sorted(chance.sample(range(5), chance.randint(0, 5)))) for _ in range(many)]
            setting = chance.choice([many, editions])
            history = drawn_history(chance, [rule], setting, 25)
            told = [
                (tuple(telling.places), tuple(tuple(mark) for mark in telling.marks))
                for telling, _ in told_of([rule], setting, history)
            ]
            self.assert_same(played(rule, setting, history), told)

    def test_23_an_edition_without_passages(self):
        work = work_of(3)
        setting = [work.whole(), Edition(work, [])]
        history = [("read", 0, 3), ("give", 0), ("take", 1)]
        self.assert_same(last(rule_with(), setting, history), ((3, 0), ((3,), (3,), (3,))))
        self.assert_same(last(rule_with(kept="floored"), setting, history), ((3, 0), ((3,), (0,), (3,))))


if __name__ == "__main__":
    unittest.main()
