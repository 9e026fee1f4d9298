"""Promises 31, 36 and 37: what is said to hold of all histories, asked of the program."""

import random
import unittest

from leafmarks.errors import TooMany
from leafmarks.histories import faults
from leafmarks.judging import is_never, is_run, judged
from leafmarks.rules import Rule
from tests.helpers import LeafCase, work_of
from tests.telling import FAULTS, KINDS, Telling, drawn_history, drawn_rule

KNOWN = (Rule.furthest(), Rule.latest(), Rule.newest(), Rule.inrow())
EXCHANGE = ["read", "give", "take"]


def without(*kinds):
    return [kind for kind in KINDS if kind not in kinds]


class TestStates(LeafCase):
    def test_31_each_history_leads_to_states_that_are_told(self):
        chance = random.Random(31)
        met = 0
        for turn in range(120):
            rule, fault, many = drawn_rule(chance, 1), FAULTS[turn % 4], 1 + turn % 2
            setting = chance.choice([many, [work_of(3).whole()] * many])
            try:
                word, states = judged(rule, fault, setting, most=700)
            except TooMany:
                continue
            if word == "never":
                met += 1
                known = {state: True for state in states}
                for _ in range(5):
                    telling = Telling([rule], setting)
                    for deed in drawn_history(chance, [rule], setting, 15, 4):
                        telling.do(deed)
                        self.assertIn(telling.state(fault), known)
        self.assertGreater(met, 20)


class TestDevices(LeafCase):
    def answer(self, rule, fault, setting, deeds, most):
        try:
            return judged(rule, fault, setting, deeds=deeds, most=most)[0]
        except TooMany:
            return None

    def test_36_what_three_devices_never_have_two_and_one_never_have(self):
        chance = random.Random(36)
        met = 0
        for turn in range(120):
            rule = drawn_rule(chance, 1)
            kinds = chance.choice([EXCHANGE, without("jump"), without("read"), ["jump", "give", "take"]])
            fault = FAULTS[turn % 4]
            for setting in (3, [work_of(1).whole()] * 3, [work_of(2).whole()] * 3):
                if self.answer(rule, fault, setting, kinds, 250) == "never":
                    met += 1
                    for many in (1, 2):
                        fewer = many if setting == 3 else setting[:many]
                        self.assert_same(self.answer(rule, fault, fewer, kinds, 250), "never")
        self.assertGreater(met, 30)

    def test_36_a_number_has_what_long_works_have(self):
        chance = random.Random(363)
        met = {"run": 0, "never": 0}
        for turn in range(160):
            rule = drawn_rule(chance, 1)
            kinds = chance.choice([EXCHANGE, without("jump"), without("anew"), list(KINDS)])
            many, fault = 1 + turn % 2, FAULTS[turn % 4]
            word = self.answer(rule, fault, many, kinds, 300)
            if word == "run":
                history = judged(rule, fault, many, deeds=kinds, most=300)[1]
                length = max([1] + [deed[2] for deed in history if len(deed) == 3])
                self.assert_true(is_run(rule, fault, [work_of(length).whole()] * many, history, deeds=kinds))
                if length <= 3:
                    self.assert_same(self.answer(rule, fault, [work_of(length).whole()] * many, kinds, 2000), "run")
            elif word == "never":
                for length in (1, 2, 3):
                    told = self.answer(rule, fault, [work_of(length).whole()] * many, kinds, 2000)
                    self.assertIn(told, ("never", None))
            if word:
                met[word] += 1
        self.assertGreater(min(met.values()), 30)

    def test_36_what_a_number_never_has_drawn_histories_have_not(self):
        chance = random.Random(362)
        for rule in KNOWN:
            for fault in FAULTS:
                if self.answer(rule, fault, 2, EXCHANGE, 2000) == "never":
                    for _ in range(10):
                        history = [deed for deed in drawn_history(chance, [rule], 2, 20) if deed[0] != "jump" and deed[0] != "anew"]
                        try:
                            told = faults(rule, 2, history)
                        except ValueError:
                            continue
                        self.assertNotIn(fault, [word for _, word in told])


class TestKnownRules(LeafCase):
    def assert_never(self, rule, fault, deeds, numbers=(1, 2)):
        for number in numbers:
            word, states = judged(rule, fault, number, deeds=deeds)
            self.assert_same(word, "never")
            self.assert_true(is_never(rule, fault, number, states, deeds=deeds))

    def assert_run(self, rule, fault, number, deeds):
        word, history = judged(rule, fault, number, deeds=deeds)
        self.assert_same(word, "run")
        self.assert_true(is_run(rule, fault, number, history, deeds=deeds))

    def test_37_furthest_and_inrow_never_have_back(self):
        for rule in (Rule.furthest(), Rule.inrow()):
            self.assert_never(rule, "back", list(KINDS))
            self.assert_never(rule, "back", EXCHANGE, (3,))

    def test_37_without_new_beginnings_none_has_nobody(self):
        for rule in KNOWN:
            self.assert_never(rule, "nobody", without("anew"))
            self.assert_never(rule, "nobody", ["jump", "give", "take"], (3,))

    def test_37_without_new_beginnings_inrow_never_has_ahead(self):
        self.assert_never(Rule.inrow(), "ahead", without("anew"))
        self.assert_never(Rule.inrow(), "ahead", EXCHANGE, (3,))

    def test_37_with_reads_gives_and_takes_furthest_and_inrow_never_have_lost(self):
        for rule in (Rule.furthest(), Rule.inrow()):
            self.assert_never(rule, "lost", EXCHANGE, (1, 2, 3))

    def test_37_with_two_devices_latest_has_back_and_lost(self):
        for fault in ("back", "lost"):
            self.assert_run(Rule.latest(), fault, 2, EXCHANGE)

    def test_37_with_two_devices_furthest_has_ahead_with_jumps(self):
        self.assert_run(Rule.furthest(), "ahead", 2, EXCHANGE + ["jump"])
        self.assert_never(Rule.furthest(), "ahead", EXCHANGE)


if __name__ == "__main__":
    unittest.main()
