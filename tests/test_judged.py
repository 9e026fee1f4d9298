"""Promises 29 to 32: what is told of all histories, held against a plain search."""

import random
import unittest

from leafmarks.errors import TooMany
from leafmarks.histories import faults, played
from leafmarks.judging import is_never, is_run, judged, needed, rules_parted
from leafmarks.rules import Rule
from leafmarks.works import Edition
from tests.helpers import LeafCase, anything, edition_of, work_of
from tests.telling import FAULTS, KINDS, drawn_rule, plain_search, rule_with
from tests.test_histories import wrong_settings

BOUND = 150


def wrong_faults():
    return anything() + ["Back", "back ", "backs", "never", "read", ["back"], ("lost",), {"back": 1}, "parted"]


def wrong_kinds():
    return [
        *[thing for thing in anything()],
        "read",
        ["show"],
        ["read", "read"],
        ["read", "jump", "read"],
        ("take", "take"),
        [*KINDS, "take"],
        [*KINDS, None],
        ["read", "Jump"],
        [["read"]],
        [("read", "jump")],
        {"read": 1},
        ["read", 0],
        [True, "read"],
        ["read", ["jump"]],
    ]


def drawn_question(chance, fields, many):
    """A rule, a fault, a setting with so many devices, and kinds of deeds."""
    rule = drawn_rule(chance, fields)
    length = chance.randint(1, 4)
    editions = [edition_of(work_of(length), sorted(chance.sample(range(length), chance.randint(0, length)))) for _ in range(many)]
    kinds = list(KINDS) if chance.random() < 0.5 else chance.sample(KINDS, chance.randint(1, 4))
    return rule, chance.choice([many, editions]), kinds


class TestAsked(LeafCase):
    """Promise 29: the order of the errors of each function."""

    def calls(self, setting, fault, deeds, has_fault=True):
        """Calls of each function with these arguments; those of rules_parted only if the fault is no matter."""
        rule = Rule.latest()
        yield lambda: judged(rule, fault, setting, deeds=deeds, most=1)
        yield lambda: judged(most=1, deeds=deeds, setting=setting, fault=fault, rule=rule)
        yield lambda: is_run(rule, fault, setting, "nothing", deeds=deeds)
        yield lambda: is_run(deeds=deeds, history=[], setting=setting, fault=fault, rule=rule)
        yield lambda: is_never(rule, fault, setting, "nothing", deeds=deeds)
        yield lambda: is_never(deeds=deeds, states=[], setting=setting, fault=fault, rule=rule)
        yield lambda: needed(rule, fault, setting, deeds=deeds, most=1)
        yield lambda: needed(most=1, deeds=deeds, setting=setting, fault=fault, rule=rule)
        if not has_fault:
            yield lambda: rules_parted(rule, Rule.furthest(), setting, deeds=deeds, most=1)
            yield lambda: rules_parted(most=1, deeds=deeds, setting=setting, other=Rule.furthest(), one=rule)

    def test_29_a_wrong_setting_first(self):
        for setting in wrong_settings():
            for fault, deeds in (("back", list(KINDS)), ("x", []), (None, None), ([], "read")):
                for call in self.calls(setting, fault, deeds, has_fault=False):
                    self.assert_refused("BadSetting", (), call)

    def test_29_then_a_wrong_fault(self):
        for setting in (2, [work_of(2).whole()]):
            for fault in wrong_faults():
                for deeds in (list(KINDS), ["show"], None):
                    for call in self.calls(setting, fault, deeds):
                        self.assert_refused("BadFault", (fault,), call)

    def test_29_then_wrong_kinds(self):
        for setting in (2, [work_of(2).whole()]):
            for deeds in wrong_kinds():
                for fault in ("back", "lost"):
                    for call in self.calls(setting, fault, deeds, has_fault=False):
                        self.assert_refused("BadKinds", (deeds,), call)

    def test_29_then_too_many(self):
        # With reads alone there is a new state behind the first deed, and no take.
        for setting in (1, [work_of(2).whole()]):
            rule = Rule.latest()
            for call in (
                lambda: judged(rule, "back", setting, deeds=["read"], most=1),
                lambda: needed(rule, "back", setting, deeds=["read"], most=1),
                lambda: rules_parted(rule, rule, setting, deeds=["read"], most=1),
            ):
                self.assert_refused("TooMany", (1,), call)

    def test_29_the_very_objects_are_kept(self):
        fault, deeds = ["back"], ["read", "read"]
        for call in self.calls(1, fault, deeds):
            with self.assertRaises(ValueError) as caught:
                call()
            self.assertIs(caught.exception.fault, fault)
        for call in self.calls(1, "back", deeds, has_fault=False):
            with self.assertRaises(ValueError) as caught:
                call()
            self.assertIs(caught.exception.kinds, deeds)

    def test_29_all_kinds_if_nothing_else_is_passed(self):
        rule = Rule.latest()
        for deeds in (KINDS, list(KINDS), list(KINDS)[::-1]):
            told = judged(rule, "back", 2, deeds=deeds)
            self.assert_same(told[0], judged(rule, "back", 2)[0])
            self.assert_same(len(told[1]), len(judged(rule, "back", 2)[1]))
        never = judged(Rule.furthest(), "back", 1)
        self.assert_same(judged(Rule.furthest(), "back", 1, deeds=list(KINDS), most=5000), never)
        self.assert_true(is_never(Rule.furthest(), "back", 1, never[1]))
        self.assert_same(needed(Rule.furthest(), "back", 1), ["far"])

    def test_29_each_set_of_kinds_is_asked(self):
        for kind in KINDS:
            told = judged(Rule.latest(), "back", 2, deeds=[kind], most=1000)
            self.assert_same(told[0], "never")
            self.assert_same(told, judged(Rule.latest(), "back", 2, deeds=(kind,), most=1000))
        self.assert_same(judged(Rule.latest(), "back", 1, deeds=["take", "read"])[0], "run")


class TestStates(LeafCase):
    """Promise 30: states as they are told, of questions that are small enough to be written down."""

    def test_30_the_beginning_alone(self):
        for fault, values, seen in (("back", 3, ()), ("ahead", 4, ()), ("nobody", 3, (0,)), ("lost", 4, ())):
            state = ((0,) * values, (), seen)
            for setting in (1, [work_of(2).whole()]):
                self.assert_same(judged(Rule.latest(), fault, setting, deeds=["give"], most=1), ("never", [state]))
        three = judged(Rule.newest(), "lost", 3, deeds=["give", "take"], most=1)
        self.assert_same(three, ("never", [((0,) * 8, (0, 0, 0, 0), ())]))

    def test_30_ranks(self):
        # The device reads on: its place and value are the same place, whichever it is.
        told = judged(Rule.latest(), "back", 1, deeds=["read", "give"])
        states = [((0, 0, 0), (), ()), ((1, 1, 0), (), ()), ((1, 1, 1), (), ()), ((2, 2, 1), (), ())]
        self.assert_same(told, ("never", states))

    def test_30_ranks_without_a_beginning(self):
        # The beginning is no value any more, so 0 is missing.
        told = judged(Rule.latest(), "nobody", 1, deeds=["jump", "give"])
        states = [
            ((0, 0, 0), (), (0,)),
            ((0, 0, 1), (), (0, 1)),
            ((1, 1, 0), (), (0, 1)),
            ((1, 1, 1), (), (1,)),
            ((1, 1, 2), (), (1, 2)),
            ((2, 2, 1), (), (1, 2)),
        ]
        self.assert_same(told, ("never", states))

    def test_30_cuts_of_editions(self):
        work = work_of(3)
        told = judged(Rule.latest(), "back", [edition_of(work, [0, 2])], deeds=["read", "give"])
        states = [
            ((0, 0, 0), (), ()),
            ((1, 1, 0), (), ()),
            ((1, 1, 1), (), ()),
            ((3, 3, 0), (), ()),
            ((3, 3, 1), (), ()),
            ((3, 3, 3), (), ()),
        ]
        self.assert_same(told, ("never", states))

    def test_30_the_row(self):
        nothing = rule_with("stay", read="no", jump="no", anew="no", give="no", take="no")
        told = judged(nothing, "ahead", [work_of(2).whole()], deeds=["read", "jump"])
        states = [((place, 0, 0, row), (), ()) for place in (0, 1, 2) for row in (0, 1, 2)]
        self.assert_same(told, ("never", states))
        told = judged(nothing, "ahead", [edition_of(work_of(2), [1])], deeds=["read"])
        self.assert_same(told, ("never", [((0, 0, 0, 0), (), ()), ((2, 0, 0, 2), (), ())]))

    def test_30_the_greatest_place_that_was_read_to(self):
        keeps = rule_with("stay", read="raise", jump="no", anew="no", give="no", take="no")
        told = judged(keeps, "lost", 1, deeds=["read", "jump"])
        states = [
            ((0, 0, 0, 0), (), ()),
            ((0, 1, 0, 1), (), ()),
            ((1, 0, 0, 0), (), ()),
            ((1, 1, 0, 1), (), ()),
            ((1, 2, 0, 2), (), ()),
            ((2, 1, 0, 1), (), ()),
        ]
        self.assert_same(told, ("never", states))

    def test_30_the_places_that_are_come_to(self):
        nothing = rule_with("stay", read="no", jump="no", anew="no", give="no", take="no")
        told = judged(nothing, "nobody", [work_of(2).whole()], deeds=["jump"])
        states = [
            ((0, 0, 0), (), (0,)),
            ((0, 0, 0), (), (0, 1)),
            ((0, 0, 0), (), (0, 1, 2)),
            ((0, 0, 0), (), (0, 2)),
            ((1, 0, 0), (), (0, 1)),
            ((1, 0, 0), (), (0, 1, 2)),
            ((2, 0, 0), (), (0, 1, 2)),
            ((2, 0, 0), (), (0, 2)),
        ]
        self.assert_same(told, ("never", states))
        # With a number only those that stand among the values.
        told = judged(nothing, "nobody", 1, deeds=["jump"])
        self.assert_same(told, ("never", [((0, 0, 0), (), (0,)), ((1, 0, 0), (), (0, 1))]))

    def test_30_stamps(self):
        nothing = rule_with("stay", read="no", jump="no", anew="no", give="no", take="later")
        values = (0, 0, 0)
        told = judged(nothing, "back", 1, deeds=["anew", "give", "take"])
        self.assert_same(told, ("never", [(values, (0, 0), ()), (values, (1, 0), ())]))
        values = (0, 0, 0, 0, 0)
        told = judged(nothing, "back", 2, deeds=["anew", "give"])
        stamps = [(0, 0, 0), (0, 1, 0), (0, 1, 1), (0, 2, 1), (1, 0, 0), (1, 0, 1), (1, 2, 0), (2, 0, 1), (2, 1, 0)]
        self.assert_same(told, ("never", [(values, row, ()) for row in stamps]))

    def test_30_stamps_are_there_for_later_alone(self):
        for words, many in (({}, 0), ({"give": "later"}, 3), ({"take": "later"}, 3), ({"give": "raise"}, 0)):
            told = judged(rule_with("stay", **words), "back", 2, deeds=["give"])
            self.assert_same(told[1][0][1], (0,) * many)

    def test_30_values_field_by_field(self):
        fields = [("a", "last", "no", "no", "no", "no", "exact"), ("b", "no", "last", "no", "last", "no", "exact")]
        rule = Rule(fields, ("stay", "a"))
        work = work_of(2)
        setting = [edition_of(work, [0]), edition_of(work, [1])]
        states = judged(rule, "lost", setting, deeds=["read", "jump", "give"])[1]
        self.assertIn(((1, 0, 1, 0, 0, 0, 0, 0, 0), (), ()), states)
        self.assertIn(((1, 1, 0, 0, 0, 0, 0, 0, 1), (), ()), states)
        self.assertIn(((0, 0, 0, 2, 0, 2, 0, 2, 0), (), ()), states)
        self.assertEqual(states, plain_search([rule], "lost", setting, ["read", "jump", "give"], 5000)[1])


class TestHeld(LeafCase):
    def assert_told(self, rule, fault, setting, kinds, bound=BOUND):
        """The program's answer is the plain search's, and TooMany stands at the very bound. Returns the word."""
        word, told, many = plain_search([rule], fault, setting, kinds, bound)
        if word == "more":
            self.assert_refused("TooMany", (bound,), judged, rule, fault, setting, deeds=kinds, most=bound)
            return word
        answer = judged(rule, fault, setting, deeds=kinds, most=many)
        self.assertIs(type(answer), tuple)
        self.assert_same(answer[0], word)
        if word == "run":
            self.assert_same(len(answer[1]), told)
            self.assert_has_the_fault(rule, fault, setting, kinds, answer[1])
        else:
            self.assert_same(answer[1], told)
            self.assert_true(is_never(rule, fault, setting, answer[1], deeds=kinds))
        self.assert_same(judged(rule, fault, setting, deeds=kinds, most=many + 1), answer)
        if many > 1:
            self.assert_refused("TooMany", (many - 1,), judged, rule, fault, setting, deeds=kinds, most=many - 1)
        return word

    def assert_has_the_fault(self, rule, fault, setting, kinds, history):
        self.assertTrue(all(deed[0] in kinds for deed in history))
        self.assertTrue(all(type(deed) is tuple for deed in history))
        self.assertTrue(all(0 <= deed[2] <= 10**6 for deed in history if len(deed) == 3))
        told = faults(rule, setting, history)
        self.assertIn((len(history) - 1, fault), told)
        self.assertEqual([pair for pair in told if pair[1] == fault], [(len(history) - 1, fault)])
        self.assert_true(is_run(rule, fault, setting, history, deeds=kinds))

    def test_32_drawn_questions_with_one_device(self):
        chance = random.Random(321)
        met = {}
        for turn in range(240):
            rule, setting, kinds = drawn_question(chance, 1 + turn % 2, 1)
            fault = FAULTS[turn % 4]
            met.setdefault((fault, self.assert_told(rule, fault, setting, kinds)), turn)
        for fault in FAULTS:
            self.assertIn((fault, "never"), met)
        self.assertIn("run", [word for _, word in met])

    def test_32_drawn_questions_with_two_devices(self):
        chance = random.Random(322)
        met = {}
        for turn in range(160):
            rule, setting, kinds = drawn_question(chance, 1, 2)
            fault = FAULTS[turn % 4]
            met.setdefault((fault, self.assert_told(rule, fault, setting, kinds)), turn)
        for fault in FAULTS:
            self.assertIn((fault, "run"), met)
            self.assertIn((fault, "never"), met)
        self.assertIn("more", [word for _, word in met])

    def test_32_drawn_questions_with_three_devices(self):
        chance = random.Random(323)
        for turn in range(40):
            rule, setting, kinds = drawn_question(chance, 1, 3)
            self.assert_told(rule, FAULTS[turn % 4], setting, kinds)

    def test_32_the_known_rules(self):
        for rule in (Rule.furthest(), Rule.latest(), Rule.newest(), Rule.inrow()):
            for fault in FAULTS:
                self.assert_told(rule, fault, 1, list(KINDS))
                self.assert_told(rule, fault, [work_of(2).whole(), edition_of(work_of(2), [1])], list(KINDS))
                self.assert_told(rule, fault, 2, ["read", "give", "take"])

    def test_32_stamps_with_a_number_and_with_editions(self):
        chance = random.Random(30)
        work = work_of(2)
        for turn in range(40):
            words = {"give": chance.choice(["later", "raise", "last"]), "take": "later", "kept": chance.choice(["exact", "floored"])}
            rule = rule_with(chance.choice(["field", "greater"]), jump=chance.choice(["last", "lower"]), **words)
            setting = chance.choice([1, 2, [work.whole()], [work.whole(), edition_of(work, [1])]])
            self.assert_told(rule, FAULTS[turn % 4], setting, chance.choice([["read", "give", "take"], list(KINDS)]))

    def test_32_long_histories(self):
        # A field that no read reaches: the place comes by jumps, and goes by takes alone.
        rule = Rule(
            [("a", "raise", "no", "no", "raise", "no", "exact"), ("b", "no", "no", "no", "no", "raise", "exact")],
            ("greater", "b"),
        )
        for fault in FAULTS:
            self.assert_told(rule, fault, 2, ["read", "give", "take"], 400)
        work = work_of(3)
        floored = rule_with("field", kept="floored")
        setting = [edition_of(work, [0, 2]), edition_of(work, [0, 1])]
        for fault in FAULTS:
            self.assert_told(floored, fault, setting, ["read", "give", "take"], 400)

    def test_32_the_same_answer_for_equal_arguments(self):
        chance = random.Random(324)
        for turn in range(20):
            rule, setting, kinds = drawn_question(chance, 1, 1 + turn % 2)
            again = Rule.of_text(rule.text())
            same = setting if isinstance(setting, int) else [Edition(work_of(len(one.work)), one.passages()) for one in setting]
            told = []
            for one, other in ((rule, setting), (again, same), (rule, same)):
                try:
                    told.append(judged(one, FAULTS[turn % 4], other, deeds=list(kinds), most=300))
                except TooMany:
                    told.append(None)
            self.assertEqual(told[0], told[1])
            self.assertEqual(told[0], told[2])

    def test_32_places_of_a_run_are_new_numbers(self):
        # A place between two others, which are given first: room must be made for it.
        rule = rule_with("field", give="raise", take="last", jump="no")
        told = judged(rule, "back", 2, deeds=["read", "give", "take"])
        self.assert_same(told[0], "run")
        self.assert_same(len(played(rule, 2, told[1])), len(told[1]))


if __name__ == "__main__":
    unittest.main()
