"""Promise 27: the faults of a history, each alone, several at once, and by a plain second telling of the point."""

import random
import unittest

from leafmarks.histories import faults
from leafmarks.rules import Rule
from tests.helpers import LeafCase, edition_of, work_of
from tests.telling import FAULTS, drawn_history, drawn_rule, field_with, rule_with, told_of


class TestBack(LeafCase):
    def test_27_a_place_that_becomes_less(self):
        rule = rule_with("field", take="last")
        history = [("read", 1, 2), ("give", 1), ("jump", 0, 3), ("take", 0)]
        self.assert_same(faults(rule, 2, history), [(3, "back")])
        self.assert_same(faults(rule=rule, history=tuple(history), setting=2), [(3, "back")])

    def test_27_a_place_that_stays_or_becomes_greater(self):
        rule = rule_with("field")
        for place in (0, 1, 2):
            history = [("read", 1, 2), ("give", 1), ("jump", 0, place), ("take", 0)]
            self.assert_same(faults(rule, 2, history), [])

    def test_27_at_a_take_alone(self):
        history = [("jump", 0, 3), ("jump", 0, 1), ("jump", 0, 3), ("anew", 0), ("give", 0)]
        self.assert_same(faults(Rule.latest(), 1, history), [])


class TestAhead(LeafCase):
    def test_27_a_place_beyond_the_row(self):
        history = [("jump", 1, 5), ("give", 1), ("take", 0)]
        self.assert_same(faults(rule_with("field"), 2, history), [(2, "ahead")])

    def test_27_a_place_at_the_row(self):
        history = [("read", 1, 5), ("give", 1), ("take", 0)]
        self.assert_same(faults(rule_with("field"), 2, history), [])

    def test_27_the_row_is_raised_by_each_device_without_a_gap(self):
        rule = rule_with("field")
        # Read to 3 by the one, from there to 5 by the other: the row is 5.
        history = [("read", 0, 3), ("jump", 1, 3), ("read", 1, 5), ("give", 1), ("take", 0)]
        self.assert_same(faults(rule, 2, history), [])
        # From below the row, too.
        history[1] = ("jump", 1, 1)
        self.assert_same(faults(rule, 2, history), [])
        # From beyond it the row stays at 3.
        history[1] = ("jump", 1, 4)
        self.assert_same(faults(rule, 2, history), [(4, "ahead")])

    def test_27_a_read_deed_that_ends_below_the_row_does_not_lower_it(self):
        history = [("read", 0, 5), ("read", 1, 2), ("give", 0), ("take", 1)]
        self.assert_same(faults(rule_with("field"), 2, history), [])

    def test_27_begun_anew_on_any_device_the_row_is_0(self):
        history = [("read", 0, 5), ("give", 0), ("anew", 2), ("take", 1)]
        self.assert_same(faults(rule_with("field"), 3, history), [(3, "ahead"), (3, "nobody")])

    def test_27_jumps_do_not_raise_the_row(self):
        history = [("jump", 0, 5), ("jump", 0, 0), ("read", 0, 1), ("jump", 0, 5), ("give", 0), ("take", 1)]
        self.assert_same(faults(rule_with("field"), 2, history), [(5, "ahead")])

    def test_27_a_place_that_stays_beyond_the_row(self):
        history = [("jump", 0, 5), ("give", 0), ("take", 0)]
        self.assert_same(faults(rule_with("field"), 1, history), [])

    def test_27_a_place_that_goes_back_and_stays_ahead(self):
        history = [("jump", 1, 3), ("give", 1), ("jump", 0, 5), ("take", 0)]
        self.assert_same(faults(rule_with("field"), 2, history), [(3, "back"), (3, "ahead")])


class TestNobody(LeafCase):
    def test_27_a_place_that_was_read_to_or_jumped_to(self):
        for kind in ("read", "jump"):
            history = [("read", 0, 9), (kind, 1, 4), ("give", 1), ("jump", 1, 2), ("take", 2)]
            self.assert_same(faults(rule_with("field"), 3, history), [])

    def test_27_the_beginning_is_come_to(self):
        history = [("anew", 1), ("jump", 0, 3), ("take", 0)]
        self.assert_same(faults(rule_with("field"), 2, history), [(2, "back")])

    def test_27_begun_anew_on_any_device_nothing_else_is(self):
        history = [("read", 0, 5), ("give", 0), ("anew", 1), ("jump", 1, 6), ("take", 2)]
        self.assert_same(faults(rule_with("field"), 3, history), [(4, "ahead"), (4, "nobody")])
        # But what is come to since then.
        history[3] = ("jump", 1, 5)
        self.assert_same(faults(rule_with("field"), 3, history), [(4, "ahead")])

    def test_27_a_place_that_stays_is_not_asked(self):
        history = [("read", 0, 5), ("give", 0), ("anew", 1), ("take", 0)]
        self.assert_same(faults(rule_with("field"), 2, history), [])

    def test_27_kernels_of_places_that_are_come_to(self):
        work = work_of(6)
        setting = [edition_of(work, [0, 4]), edition_of(work, [0, 2])]
        # 5 is come to: its kernel in the other edition is 3.
        history = [("read", 0, 5), ("give", 0), ("take", 1)]
        self.assert_same(faults(rule_with("field"), setting, history), [])
        # Floored twice, from 5 by 3, the device comes to 1, the kernel of no place but 1.
        floored = rule_with("field", kept="floored")
        history = [("read", 0, 5), ("give", 0), ("take", 1), ("give", 1), ("take", 0)]
        self.assert_same(faults(floored, setting, history), [(4, "back"), (4, "nobody"), (4, "lost")])
        history = [("jump", 1, 1)] + history
        self.assert_same(faults(floored, setting, history), [(5, "back"), (5, "lost")])

    def test_27_a_place_of_another_edition_that_is_come_to_counts_by_its_kernel(self):
        work = work_of(6)
        setting = [work.whole(), edition_of(work, [1, 3])]
        history = [("jump", 0, 3), ("give", 0), ("jump", 0, 6), ("take", 1)]
        self.assert_same(faults(rule_with("field"), setting, history), [(3, "ahead")])


class TestLost(LeafCase):
    def test_27_behind_any_deed(self):
        nothing = rule_with("stay", read="no", jump="no", anew="no", give="no", take="no")
        self.assert_same(faults(nothing, 1, [("read", 0, 5), ("jump", 0, 4)]), [(1, "lost")])
        self.assert_same(faults(rule_with(), 1, [("read", 0, 5), ("take", 0)]), [(1, "back"), (1, "lost")])
        history = [("read", 0, 5), ("give", 0), ("anew", 1), ("read", 1, 3), ("give", 1), ("jump", 0, 2), ("take", 0)]
        self.assert_same(faults(rule_with(), 2, history), [])

    def test_27_it_goes_on_until_something_stands_there_again(self):
        nothing = rule_with("stay", read="no", jump="no", anew="no", give="no", take="no")
        history = [("read", 0, 5), ("jump", 0, 4), ("give", 0), ("take", 1), ("jump", 1, 5), ("jump", 1, 0), ("anew", 1)]
        self.assert_same(faults(nothing, 2, history), [(1, "lost"), (2, "lost"), (3, "lost"), (5, "lost")])
        self.assert_same(faults(nothing, 2, [("read", 0, 5), ("jump", 0, 4), ("read", 0, 5)]), [(1, "lost")])
        self.assert_same(faults(nothing, 2, [("read", 0, 5), ("jump", 0, 4), ("read", 1, 3)]), [(1, "lost"), (2, "lost")])

    def test_27_a_give_can_lose(self):
        rule = rule_with("stay", take="no")
        history = [("read", 0, 5), ("give", 0), ("jump", 0, 1), ("give", 1)]
        self.assert_same(faults(rule, 2, history), [(3, "lost")])

    def test_27_each_place_and_value_counts(self):
        keeper = Rule([field_with("a", jump="no"), field_with("b", jump="last")], ("stay", "b"))
        self.assert_same(faults(keeper, 1, [("read", 0, 5), ("jump", 0, 4)]), [])
        self.assert_same(faults(rule_with("stay"), 1, [("read", 0, 5), ("give", 0), ("jump", 0, 4)]), [])
        self.assert_same(faults(rule_with("stay"), 3, [("read", 0, 5), ("jump", 2, 5), ("jump", 0, 4)]), [])

    def test_27_a_jump_is_no_read_deed(self):
        self.assert_same(faults(Rule.latest(), 1, [("jump", 0, 5), ("jump", 0, 0)]), [])

    def test_27_begun_anew_on_any_device_nothing_can_be_lost(self):
        history = [("read", 0, 5), ("anew", 1), ("jump", 0, 0)]
        self.assert_same(faults(Rule.latest(), 2, history), [])
        self.assert_same(faults(Rule.latest(), 2, history + [("read", 1, 2), ("jump", 1, 1)]), [(4, "lost")])


class TestSeveral(LeafCase):
    def test_27_all_four_at_one_deed(self):
        history = [("jump", 1, 3), ("give", 1), ("anew", 0), ("jump", 0, 2), ("read", 0, 5), ("take", 0)]
        all_four = [(5, "back"), (5, "ahead"), (5, "nobody"), (5, "lost")]
        self.assert_same(faults(Rule.latest(), 2, history), all_four)
        whole = work_of(5).whole()
        self.assert_same(faults(Rule.latest(), [whole, whole], history), all_four)

    def test_27_all_but_one_of_them(self):
        beginning = [("jump", 1, 3), ("give", 1), ("anew", 0)]
        for ahead, told in (
            ([("jump", 0, 2), ("read", 0, 5), ("jump", 0, 1)], ["ahead", "nobody", "lost"]),
            ([("read", 0, 4), ("read", 0, 5)], ["back", "nobody", "lost"]),
            ([("jump", 0, 3), ("read", 0, 5)], ["back", "ahead", "lost"]),
            ([("jump", 0, 5)], ["back", "ahead", "nobody"]),
        ):
            history = beginning + ahead + [("take", 0)]
            at = len(history) - 1
            self.assert_same([pair for pair in faults(Rule.latest(), 2, history) if pair[0] == at], [(at, word) for word in told])

    def test_27_in_their_order(self):
        chance = random.Random(4)
        met = set()
        for _ in range(400):
            rule = drawn_rule(chance, 2)
            history = drawn_history(chance, [rule], 2, 15)
            told = faults(rule, 2, history)
            met |= {tuple(word for at, word in told if at == index) for index in range(15)}
            self.assertEqual(told, sorted(told, key=lambda pair: (pair[0], FAULTS.index(pair[1]))))
        self.assertGreater(len(met), 5)

    def test_27_behind_new_beginnings_on_either_device(self):
        for device in (0, 1):
            history = [("read", 0, 5), ("give", 0), ("anew", device), ("take", 1 - device), ("take", device)]
            told = faults(Rule.latest(), 2, history)
            wanted = [(3, "ahead"), (3, "nobody"), (4, "ahead"), (4, "nobody")]
            self.assert_same(told, wanted if device == 0 else wanted[2:])


class TestHeld(LeafCase):
    def test_27_drawn_histories_by_a_plain_second_telling(self):
        chance = random.Random(27)
        met = {word: 0 for word in FAULTS}
        for turn in range(600):
            rule = drawn_rule(chance, 1 + turn % 3)
            work, many = work_of(6), chance.randint(1, 3)
            editions = [edition_of(work, sorted(chance.sample(range(6), chance.randint(0, 6)))) for _ in range(many)]
            setting = chance.choice([many, editions])
            history = drawn_history(chance, [rule], setting, 20)
            told = [
                (index, word)
                for index, (_, words) in enumerate(told_of([rule], setting, history))
                for word in FAULTS
                if word in words
            ]
            self.assert_same(faults(rule, setting, history), told)
            for _, word in told:
                met[word] += 1
        self.assertTrue(all(many > 100 for many in met.values()), met)

    def test_27_the_known_rules_by_a_plain_second_telling(self):
        chance = random.Random(72)
        for rule in (Rule.furthest(), Rule.latest(), Rule.newest(), Rule.inrow()):
            for setting in (1, 2, 3):
                for _ in range(20):
                    history = drawn_history(chance, [rule], setting, 30)
                    told = told_of([rule], setting, history)
                    wanted = [(index, word) for index, (_, words) in enumerate(told) for word in words]
                    self.assert_same(faults(rule, setting, history), wanted)

    def test_27_the_history_without_deeds(self):
        self.assert_same(faults(Rule.latest(), 2, []), [])
        self.assert_same(faults(Rule.latest(), 2, ()), [])


if __name__ == "__main__":
    unittest.main()
