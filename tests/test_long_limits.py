"""Promise 5: the limits of rules, histories, questions and shelves are held."""

import random
import unittest

from leafmarks.histories import faults, history_text, played, read_history
from leafmarks.judging import is_never, is_run, judged, needed, rules_parted
from leafmarks.places import Place
from leafmarks.rules import Rule
from leafmarks.shelves import Shelf
from tests.helpers import HUGE, LeafCase, edition_of, work_of
from tests.telling import FAULTS, KINDS, Telling, drawn_history, drawn_rule, field_with, rule_with

MOST = 20000
THREE = Rule(
    [
        ("a", "row", "lower", "least", "later", "raise", "floored"),
        ("b", "raise", "no", "no", "raise", "later", "exact"),
        ("c", "last", "last", "least", "last", "last", "exact"),
    ],
    ("greater", "b"),
)
STILL = rule_with("stay", read="no", jump="no", anew="no", give="no", take="no")


class TestHistories(LeafCase):
    def test_5_two_hundred_deeds_at_places_up_to_a_million(self):
        chance = random.Random(200)
        for rule in (Rule.newest(), THREE):
            history = drawn_history(chance, [rule], 3, 200, 10**6)
            telling, told, words = Telling([rule], 3), [], []
            for index, deed in enumerate(history):
                words += [(index, word) for word in telling.do(deed)]
                told.append((tuple(telling.places), tuple(tuple(mark) for mark in telling.marks)))
            self.assert_same(played(rule, 3, history), told)
            self.assert_same(faults(rule, 3, history), [(at, word) for at, word in words])
            self.assert_same(read_history(history_text(history[:150])), history[:150])
            last = [word for at, word in words if at == 199]
            for fault in FAULTS:
                self.assertIs(is_run(rule, fault, 3, history), fault in last)

    def test_5_works_of_sixty_passages_in_histories(self):
        chance = random.Random(60)
        work = work_of(60)
        setting = [edition_of(work, sorted(chance.sample(range(60), 40))) for _ in range(3)]
        history = drawn_history(chance, [THREE], setting, 200)
        telling = Telling([THREE], setting)
        for deed, (places, marks) in zip(history, played(THREE, setting, history)):
            telling.do(deed)
            self.assert_same(places, tuple(telling.places))
            self.assert_same(marks, tuple(tuple(mark) for mark in telling.marks))

    def test_5_texts_of_four_thousand_signs(self):
        text = "read 0 1000000\n" * 266
        self.assert_same(read_history(text), [("read", 0, 10**6)] * 266)
        self.assert_refused("BadText", (267,), read_history, text + "read 3 1\n")
        self.assert_same(read_history(f"jump 2 {HUGE}\n"), [("jump", 2, HUGE)])
        self.assert_refused("BadText", (1,), read_history, "~" * 4000)
        self.assert_refused("BadText", (1,), Rule.of_text, "field " * 600)
        self.assert_refused("BadText", (1,), Rule.of_text, "\n" * 4000)
        self.assert_same(read_history("jump 0 " + "9" * 3990 + "\n"), [("jump", 0, int("9" * 3990))])

    def test_5_integers_of_sixty_figures(self):
        self.assert_refused("BadSetting", (), played, THREE, HUGE, [])
        self.assert_refused("BadDeed", (0,), played, THREE, 3, [("give", HUGE)])
        self.assert_refused("BadDeed", (0,), played, THREE, [work_of(60).whole()], [("jump", 0, HUGE)])
        self.assert_false(is_never(STILL, "back", 1, [((0, 0, HUGE), (), ())]))


class TestQuestions(LeafCase):
    def test_5_too_many_with_three_devices_works_of_eight_and_rules_of_three(self):
        work = work_of(8)
        setting = [work.whole(), edition_of(work, [0, 2, 4, 6]), edition_of(work, [1, 3, 5, 7])]
        for fault in ("nobody", "back"):
            for where in (3, setting):
                self.assert_too_many_or_run(THREE, fault, where)
        self.assert_refused("TooMany", (MOST,), rules_parted, THREE, THREE, 3, most=MOST)
        self.assert_refused("TooMany", (MOST,), rules_parted, THREE, THREE, setting, most=MOST)

    def assert_too_many_or_run(self, rule, fault, setting):
        try:
            word, history = judged(rule, fault, setting, most=MOST)
        except ValueError as error:
            self.assert_same(error.most, MOST)
        else:
            self.assert_same(word, "run")
            self.assert_true(is_run(rule, fault, setting, history))

    def test_5_almost_twenty_thousand_states(self):
        # Three places, which are no values of anybody's mark: nine, five and nine of them, and what was come to.
        work = work_of(8)
        setting = [work.whole(), edition_of(work, [0, 2, 4, 6]), work.whole()]
        word, states = judged(STILL, "ahead", setting, most=MOST)
        self.assert_same(word, "never")
        self.assert_same(len(states), 9 * 5 * 9 * 9)
        self.assertEqual(states, sorted(states))
        self.assert_true(is_never(STILL, "ahead", setting, states))
        self.assert_false(is_never(STILL, "ahead", setting, states[1:]))
        self.assert_refused("TooMany", (3644,), judged, STILL, "ahead", setting, most=3644)

    def test_5_most_of_twenty_thousand_with_a_number(self):
        rule = Rule.furthest()
        word, states = judged(rule, "lost", 2, most=MOST)
        self.assert_same((word, len(states)), ("never", 4672))
        self.assert_refused("TooMany", (4671,), judged, rule, "lost", 2, most=4671)
        self.assert_same(judged(rule, "lost", 2, most=4672), (word, states))
        self.assert_refused("TooMany", (MOST,), judged, rule, "back", 3, most=MOST)
        self.assert_refused("TooMany", (5000,), judged, rule, "back", 3)

    def test_5_needed_of_three_fields_and_three_devices(self):
        rule = Rule([field_with("i", read="no", jump="no", anew="no", give="no", take="no"), *Rule.furthest().fields()], ("greater", "far"))
        kinds = ["read", "give", "take"]
        self.assert_same(needed(rule, "lost", 3, deeds=kinds, most=MOST), ["far"])
        three = Rule([*rule.fields(), field_with("z")], ("greater", "z"))
        self.assertIn(needed(three, "back", [work_of(2).whole()] * 3, deeds=kinds, most=MOST), (None, ["z"]))

    def test_5_most_of_one(self):
        told = ("never", [((0, 0, 0, 0, 0, 0, 0), (), ())])
        self.assert_same(judged(STILL, "back", 3, deeds=["anew", "give", "take"], most=1), told)
        self.assert_refused("TooMany", (1,), judged, STILL, "back", 3, deeds=["jump"], most=1)
        # What the first deed shows needs no more states than the beginning.
        self.assert_same(judged(STILL, "lost", 1, deeds=["read", "jump"], most=3)[0], "run")


class TestShelves(LeafCase):
    def test_5_volumes_of_works_of_sixty_passages(self):
        works = [work_of(60, name) for name in ("a", "b", "c", "d", "e", "f", "g", "h")]
        shelf = Shelf(THREE)
        device = shelf.device([work.whole() for work in works])
        self.assert_same(device.read(HUGE), [(part, 0, 60) for part in range(8)])
        device.give()
        self.assert_same([shelf[work][1] for work in works], [60] * 8)
        self.assertEqual(shelf.works(), works)
        shelf[works[3]] = [60, 0, 59]
        self.assert_refused("BadMark", ([61, 0, 0],), shelf.__setitem__, works[3], [61, 0, 0])
        device.jump(Place(works[3].whole(), 60))
        self.assert_same(device.read(61), [(4, 0, 60), (5, 0, 1)])

    def test_5_many_deeds(self):
        chance = random.Random(5)
        work = work_of(60)
        setting = [work.whole()] * 3
        rule = drawn_rule(chance, 3)
        history = drawn_history(chance, [rule], setting, 200)
        shelf = Shelf(rule)
        devices = [shelf.device([work.whole()]) for _ in range(3)]
        for deed in history:
            device = devices[deed[1]]
            if deed[0] == "read":
                device.read(deed[2] - device.place.count)
            elif deed[0] == "jump":
                device.jump(Place(work.whole(), deed[2]))
            else:
                getattr(device, deed[0])()
        places, marks = played(rule, setting, history)[-1]
        self.assert_same(tuple(device.place.cut for device in devices), places)
        self.assert_same((*[device.marks()[0] for device in devices], shelf[work]), marks)

    def test_5_all_kinds_are_the_default(self):
        self.assert_same(judged(Rule.latest(), "back", 2, deeds=list(KINDS), most=5000), judged(Rule.latest(), "back", 2))


if __name__ == "__main__":
    unittest.main()
