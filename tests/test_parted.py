"""Promises 34 and 35: two rules held against each other, and the fields that are needed."""

import itertools
import random
import unittest

from leafmarks.errors import TooMany
from leafmarks.histories import played
from leafmarks.judging import judged, needed, rules_parted
from leafmarks.rules import Rule
from tests.helpers import LeafCase, edition_of, work_of
from tests.telling import FAULTS, KINDS, Telling, drawn_rule, field_with, plain_search, rule_with
from tests.test_judged import drawn_question


class TestParted(LeafCase):
    def assert_told(self, one, other, setting, kinds, bound=150):
        """The answer is the plain search's, and TooMany stands at the very bound. Returns the word."""
        word, told, many = plain_search([one, other], "parted", setting, kinds, bound)
        if word == "more":
            self.assert_refused("TooMany", (bound,), rules_parted, one, other, setting, deeds=kinds, most=bound)
            return word
        answer = rules_parted(one, other, setting, deeds=kinds, most=many)
        self.assertIs(type(answer), tuple)
        if word == "run":
            self.assert_same(answer[0], "run")
            self.assert_same(len(answer[1]), told)
            self.assert_parts(one, other, setting, kinds, answer[1])
        else:
            self.assert_same(answer, ("alike", told))
        self.assert_same(rules_parted(one, other, setting, deeds=kinds, most=many + 1), answer)
        if many > 1:
            self.assert_refused("TooMany", (many - 1,), rules_parted, one, other, setting, deeds=kinds, most=many - 1)
        return answer[0]

    def assert_parts(self, one, other, setting, kinds, history):
        self.assertTrue(all(deed[0] in kinds for deed in history))
        self.assertTrue(all(0 <= deed[2] <= 10**6 for deed in history if len(deed) == 3))
        self.assert_same(history[-1][0], "take")
        places = [[told for told, _ in played(rule, setting, history)] for rule in (one, other)]
        self.assertEqual(places[0][:-1], places[1][:-1])
        device = history[-1][1]
        self.assertNotEqual(places[0][-1][device], places[1][-1][device])

    def test_34_known_rules(self):
        rules = [Rule.furthest(), Rule.latest(), Rule.newest(), Rule.inrow()]
        for one, other in itertools.product(rules, repeat=2):
            self.assert_told(one, other, 1, list(KINDS))
            self.assert_told(one, other, 2, ["read", "give", "take"])
            self.assert_told(one, other, [work_of(2).whole(), edition_of(work_of(2), [1])], list(KINDS))

    def test_34_a_rule_and_the_same_one_are_alike(self):
        for rule in (Rule.furthest(), Rule.newest()):
            told = rules_parted(rule, Rule.of_text(rule.text()), 1)
            self.assert_same(told[0], "alike")
            for values, _ in told[1]:
                self.assertEqual((values[1], values[3]), (values[2], values[4]))

    def test_34_states(self):
        one, other = rule_with("stay", jump="no"), rule_with("stay", read="no", give="no")
        self.assert_same(
            rules_parted(one, other, 1, deeds=["read", "give"]),
            ("alike", [((0, 0, 0, 0, 0), ()), ((1, 1, 0, 0, 0), ()), ((1, 1, 0, 1, 0), ()), ((2, 2, 0, 1, 0), ())]),
        )
        work = work_of(3)
        self.assert_same(
            rules_parted(one, other, [edition_of(work, [1])], deeds=["read", "give"]),
            ("alike", [((0, 0, 0, 0, 0), ()), ((2, 2, 0, 0, 0), ()), ((2, 2, 0, 2, 0), ())]),
        )
        # For each device the values by the one and by the other; then the shelf's by both.
        two = Rule([field_with("a", jump="no"), field_with("b", read="no")], ("stay", "a"))
        told = rules_parted(two, other, [work_of(2).whole(), edition_of(work_of(2), [])])
        self.assertTrue(all(len(values) == 2 * 4 + 3 for values, _ in told[1]))
        history = [("read", 0, 2), ("jump", 0, 1), ("give", 0)]
        telling = Telling([two, other], 1)
        for deed in history:
            telling.do(deed)
        self.assertEqual(telling.state("parted"), ((1, 2, 1, 1, 2, 1, 0), ()))
        self.assertIn(((1, 2, 1, 1, 2, 1, 0), ()), rules_parted(two, other, 1, deeds=["read", "jump", "give"])[1])

    def test_34_stamps_if_one_of_the_rules_has_later(self):
        later, none = rule_with("stay", give="later"), rule_with("stay")
        for one, other, many in ((later, none, 3), (none, later, 3), (later, later, 3), (none, none, 0)):
            told = rules_parted(one, other, 2, deeds=["give", "take"])
            self.assert_same(told, ("alike", [((0,) * 8, (0,) * many)]))
        two = Rule([field_with("a"), field_with("b", take="later")], ("stay", "a"))
        self.assert_same(rules_parted(none, two, 1, deeds=["take"]), ("alike", [((0,) * 7, (0, 0))]))

    def test_34_ways_part_as_values_do(self):
        self.assert_same(rules_parted(rule_with("stay"), rule_with("field"), 2)[0], "run")
        self.assert_same(len(rules_parted(rule_with("stay"), rule_with("field"), 2)[1]), 2)
        self.assert_same(len(rules_parted(rule_with("stay"), rule_with("greater"), 2)[1]), 3)

    def test_34_unlike_marks_are_not_unlike_places(self):
        one, other = rule_with("stay", give="no"), rule_with("stay", read="no", jump="raise")
        self.assert_same(self.assert_told(one, other, 1, list(KINDS)), "alike")

    def test_34_drawn_rules(self):
        chance = random.Random(34)
        met = set()
        for turn in range(200):
            one, setting, kinds = drawn_question(chance, 1 + turn % 2, 1 + turn % 3 // 2)
            other = drawn_rule(chance, 1)
            if turn % 4 == 0:
                other = Rule([*one.fields(), field_with("z")][:3], one.show())
            met.add(self.assert_told(one, other, setting, kinds))
        self.assertEqual(met, {"run", "alike", "more"})

    def test_34_the_same_answer_for_equal_arguments(self):
        one, other = Rule.furthest(), Rule.newest()
        told = rules_parted(one, other, 2)
        self.assert_same(rules_parted(Rule.of_text(one.text()), Rule.newest(), 2, deeds=list(KINDS), most=5000), told)
        setting = [work_of(2).whole(), work_of(2).whole()]
        self.assert_same(rules_parted(one, other, tuple(setting)), rules_parted(one, other, setting))
        self.assert_same(rules_parted(most=5000, deeds=KINDS, setting=2, other=other, one=one), told)


class TestNeeded(LeafCase):
    def plain_needed(self, rule, fault, setting, kinds, most):
        """The names as point 35 tells them, by asking judged; "more" if one that is asked has too many states."""
        fields, (_, name) = rule.fields(), rule.show()
        for size in range(1, len(fields) + 1):
            for kept in itertools.combinations(fields, size):
                if name in [field[0] for field in kept]:
                    try:
                        word, _ = judged(Rule(list(kept), rule.show()), fault, setting, deeds=kinds, most=most)
                    except TooMany:
                        return "more"
                    if word == "never":
                        return [field[0] for field in kept]
        return None

    def assert_needed(self, told, rule, fault, setting, **named):
        self.assert_same(needed(rule, fault, setting, **named), told)

    def test_35_one_field(self):
        self.assert_needed(["far"], Rule.furthest(), "back", 2)
        self.assert_needed(None, Rule.latest(), "back", 2)
        self.assert_needed(["late"], Rule.latest(), "back", 2, deeds=["read", "give"])

    def test_35_none_one_or_several_can_be_left_out(self):
        # What was read is lost by a jump back, unless some field keeps it.
        shown = field_with("s", give="no", take="no")
        keeps = {name: field_with(name, read="raise", jump="no", give="no", take="no") for name in "ab"}
        idle = field_with("i", read="no", jump="no", anew="no", give="no", take="no")
        for fields, told in (
            ([shown], None),
            ([shown, idle], None),
            ([idle, shown], None),
            ([shown, keeps["a"]], ["s", "a"]),
            ([keeps["a"], shown], ["a", "s"]),
            ([shown, idle, keeps["a"]], ["s", "a"]),
            ([keeps["a"], idle, shown], ["a", "s"]),
            ([idle, keeps["b"], shown], ["b", "s"]),
            ([shown, keeps["b"], keeps["a"]], ["s", "b"]),
            ([keeps["a"], shown, keeps["b"]], ["a", "s"]),
            ([keeps["b"], keeps["a"], shown], ["b", "s"]),
        ):
            for way in ("stay", "field", "greater"):
                self.assert_needed(told, Rule(fields, (way, "s")), "lost", 1, deeds=["read", "jump", "give"])
        self.assert_needed(["a"], Rule([idle, keeps["a"], shown], ("stay", "a")), "lost", 1, deeds=["read", "jump"])

    def test_35_drawn_rules_of_three_fields(self):
        chance = random.Random(353)
        met = set()
        for _ in range(400):
            rule = drawn_rule(chance, 3)
            kinds = chance.choice([["read", "jump"], ["read", "give"], ["read", "jump", "give"]])
            told = needed(rule, "lost", 1, deeds=kinds)
            self.assertEqual(told, self.plain_needed(rule, "lost", 1, kinds, 5000))
            met.add(len(told) if told else 0)
        self.assertLessEqual({0, 1, 2}, met)

    def test_35_the_shown_field_is_kept_if_the_way_is_stay_too(self):
        idle = field_with("i", read="no", jump="no", anew="no", give="no", take="no")
        far = ("far", "raise", "no", "least", "raise", "raise", "exact")
        for way in ("stay", "field", "greater"):
            for fields in ([idle, far], [far, idle]):
                names = [field[0] for field in fields]
                self.assert_needed(names, Rule(fields, (way, "i")), "lost", 1, deeds=["read", "jump"])
                self.assert_needed(["far"], Rule(fields, (way, "far")), "lost", 1, deeds=["read", "jump"])

    def test_35_the_shown_field_alone_or_none_for_the_other_faults(self):
        chance = random.Random(35)
        met = set()
        for turn in range(150):
            rule, setting, kinds = drawn_question(chance, 1 + turn % 3, 1 + turn % 2)
            for fault in ("back", "ahead", "nobody"):
                try:
                    told = needed(rule, fault, setting, deeds=kinds, most=80)
                except TooMany:
                    continue
                self.assertIn(told, ([rule.show()[1]], None))
                met.add(told is None)
        self.assertEqual(met, {True, False})

    def test_35_by_the_order_in_which_rules_are_asked(self):
        chance = random.Random(351)
        met = set()
        for turn in range(150):
            rule, setting, kinds = drawn_question(chance, 2 + turn % 2, 1)
            fault = FAULTS[turn % 4] if turn % 2 else "lost"
            for most in (1, 5, 30, 100):
                told = self.plain_needed(rule, fault, setting, kinds, most)
                if told == "more":
                    self.assert_refused("TooMany", (most,), needed, rule, fault, setting, deeds=kinds, most=most)
                    met.add("more")
                else:
                    self.assert_same(needed(rule, fault, setting, deeds=kinds, most=most), told)
                    met.add(len(told or []))
        self.assertLessEqual({0, 1, 2, "more"}, met)

    def test_35_too_many_in_a_rule_that_is_asked_ahead_of_an_answer(self):
        # The shown field alone has a run of two deeds; with one more field there is none, but there are more states.
        shown, keeps = field_with("s"), field_with("k", read="raise", jump="no")
        rule = Rule([shown, keeps], ("stay", "s"))
        alone = Rule([shown], ("stay", "s"))
        kinds = ["read", "jump"]
        self.assert_same(judged(alone, "lost", 1, deeds=kinds, most=3)[0], "run")
        never = judged(rule, "lost", 1, deeds=kinds)
        self.assert_same(never[0], "never")
        self.assert_same(needed(rule, "lost", 1, deeds=kinds, most=len(never[1])), ["s", "k"])
        self.assert_refused("TooMany", (len(never[1]) - 1,), needed, rule, "lost", 1, deeds=kinds, most=len(never[1]) - 1)
        # A rule that would be asked later, and has more, has no part in it.
        jumps = field_with("z", read="no")
        both = Rule([jumps, keeps], ("stay", "k"))
        self.assert_same(needed(both, "lost", 1, deeds=kinds, most=6), ["k"])
        self.assert_refused("TooMany", (6,), judged, both, "lost", 1, deeds=kinds, most=6)

    def test_35_by_name(self):
        self.assert_same(needed(most=100, deeds=list(KINDS), setting=1, fault="back", rule=Rule.inrow()), ["row"])


if __name__ == "__main__":
    unittest.main()
