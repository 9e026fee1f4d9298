"""Promises 3, 4 and 50 for rules, histories, the questions over all histories, shelves and devices."""

import copy
import itertools
import unittest

from leafmarks.errors import (
    Away,
    BadCount,
    BadDeed,
    BadEdition,
    BadFault,
    BadJump,
    BadKinds,
    BadMark,
    BadSetting,
    LeafError,
    TooMany,
)
from leafmarks.histories import faults, history_text, played, read_history
from leafmarks.judging import is_never, is_run, judged, needed, rules_parted
from leafmarks.places import Place
from leafmarks.rules import Rule
from leafmarks.shelves import Shelf
from leafmarks.works import Edition
from tests.helpers import LeafCase, anything, edition_of, work_of
from tests.telling import KINDS, field_with, rule_with

HISTORY = [("read", 0, 3), ("give", 0), ("jump", 1, 2), ("take", 1), ("anew", 0)]
RULE = Rule([field_with("a"), field_with("b", read="row", give="raise")], ("greater", "b"))


def as_lists(thing):
    return [as_lists(part) for part in thing] if isinstance(thing, (list, tuple)) else thing


def as_tuples(thing):
    return tuple(as_tuples(part) for part in thing) if isinstance(thing, (list, tuple)) else thing


def turned_round(thing, depth=0):
    """Lists and tuples by turns, from one depth to the next."""
    if not isinstance(thing, (list, tuple)):
        return thing
    return (list, tuple)[depth % 2]([turned_round(part, depth + 1) for part in thing])


FORMS = (as_lists, as_tuples, turned_round, lambda thing: turned_round(thing, 1))


def all_calls():
    """Each function and method with a parameter, with the names and right objects of its parameters."""
    work = work_of(4)
    setting = [work.whole(), edition_of(work, [0, 2])]
    never = judged(RULE, "back", 1, deeds=["read", "give"])[1]
    question = {"rule": RULE, "fault": "back", "setting": 1}
    return [
        (Rule, {"fields": RULE.fields(), "show": RULE.show()}, {}),
        (Rule.of_text, {"text": RULE.text()}, {}),
        (played, {"rule": RULE, "setting": setting, "history": HISTORY[:2]}, {}),
        (faults, {"rule": Rule.latest(), "setting": 2, "history": HISTORY}, {}),
        (history_text, {"history": HISTORY}, {}),
        (read_history, {"text": history_text(HISTORY)}, {}),
        (judged, question, {"deeds": ["read", "give"], "most": 100}),
        (is_run, {**question, "history": HISTORY[:1] + [("take", 0)]}, {"deeds": ["read", "take"]}),
        (is_never, {**question, "states": never}, {"deeds": ["read", "give"]}),
        (rules_parted, {"one": RULE, "other": Rule.latest(), "setting": 2}, {"deeds": ["read", "take"], "most": 100}),
        (needed, {**question, "rule": Rule.furthest()}, {"deeds": ["read", "give"], "most": 100}),
    ]


class TestArguments(LeafCase):
    def told(self, call, *args, **named):
        """What a call returns; a rule by its parts, so that it can be compared at every depth."""
        got = call(*args, **named)
        return (got.fields(), got.show()) if isinstance(got, Rule) else got

    def test_3_by_position_by_name_and_in_any_order(self):
        for call, arguments, behind in all_calls():
            told = self.told(call, *arguments.values(), **behind)
            for order in itertools.permutations([*arguments, *behind]):
                named = {name: {**arguments, **behind}[name] for name in order}
                self.assert_same(self.told(call, **named), told)
            for many in range(len(arguments)):
                ahead = list(arguments.values())[:many]
                rest = dict(list(arguments.items())[many:])
                self.assert_same(self.told(call, *ahead, **behind, **rest), told)

    def test_3_those_behind_a_star_by_name_alone(self):
        for call, arguments, behind in all_calls():
            if behind:
                with self.assertRaises(TypeError):
                    call(*arguments.values(), *behind.values())
                with self.assertRaises(TypeError):
                    call(*arguments.values(), list(KINDS))

    def test_3_defaults_where_they_are_left_out(self):
        for call, arguments, behind in all_calls():
            if behind:
                default = {"deeds": ("read", "jump", "anew", "give", "take"), "most": 5000}
                told = self.told(call, **arguments, **{name: default[name] for name in behind})
                self.assert_same(self.told(call, *arguments.values()), told)
                for left_out in behind:
                    named = {name: default[name] for name in behind if name != left_out}
                    self.assert_same(self.told(call, *arguments.values(), **named), told)

    def test_3_of_shelves_and_devices(self):
        work = work_of(4)
        shelf = Shelf(rule=RULE)
        device = shelf.device(editions=[work.whole()])
        self.assertIsNone(device.jump(place=Place(work.whole(), 2)))
        self.assertIsNone(device.show(edition=edition_of(work, [1, 3])))
        self.assert_same(device.read(passages=1), [(0, 1, 2)])
        self.assert_same(device.away(work=lambda: 5), 5)
        self.assertIsNone(device.give())
        self.assertIsNone(device.take())
        self.assertIsNone(device.anew())

    def test_3_lists_and_tuples_at_every_depth(self):
        for form in FORMS:
            for call, arguments, behind in all_calls():
                told = self.told(call, **arguments, **behind)
                formed = {name: form(thing) for name, thing in arguments.items()}
                formed_behind = {name: form(thing) for name, thing in behind.items()}
                self.assert_same(self.told(call, **formed, **formed_behind), told)

    def test_3_lists_and_tuples_of_shelves_and_devices(self):
        for form in FORMS:
            work = work_of(4)
            shelf = Shelf(RULE)
            device = shelf.device(form([work.whole()]))
            shelf[work] = form([1, 3])
            self.assert_same(shelf[work], (1, 3))
            device.take()
            self.assert_same((device.marks(), device.place.count), ([(1, 3)], 3))
            device.read(1)
            device.give()
            self.assert_same((shelf[work], device.marks()), ((4, 4), [(4, 4)]))


class TestChanges(LeafCase):
    def test_3_what_was_passed_is_not_changed(self):
        for form in FORMS:
            for call, arguments, behind in all_calls():
                named = {name: form(thing) for name, thing in {**arguments, **behind}.items()}
                as_it_was = {name: form(thing) for name, thing in {**arguments, **behind}.items()}
                call(**named)
                for name, thing in named.items():
                    self.assertEqual(thing, as_it_was[name])
                    self.assertIs(type(thing), type(as_it_was[name]))

    def test_3_later_changes_to_a_rules_fields_have_no_effect(self):
        fields, show = as_lists(RULE.fields()), list(RULE.show())
        rule = Rule(fields, show)
        fields[0][1] = "no"
        fields[1].clear()
        fields.pop()
        show.reverse()
        self.assert_equal_things(rule, RULE)
        self.assert_same((rule.fields(), rule.show(), rule.text()), (RULE.fields(), RULE.show(), RULE.text()))

    def test_3_what_was_returned_may_be_changed(self):
        rule = Rule(RULE.fields(), RULE.show())
        rule.fields().clear()
        rule.fields().append(None)
        self.assert_same(rule.fields(), RULE.fields())
        for call in (
            lambda: played(RULE, 2, HISTORY),
            lambda: faults(Rule.latest(), 1, [("read", 0, 1), ("take", 0)]),
            lambda: read_history(history_text(HISTORY)),
            lambda: judged(Rule.latest(), "back", 1)[1],
            lambda: judged(Rule.furthest(), "back", 1)[1],
            lambda: rules_parted(Rule.latest(), Rule.latest(), 1)[1],
            lambda: needed(Rule.furthest(), "back", 1),
        ):
            told = list(call())
            self.assertGreater(len(told), 0)
            changed = call()
            self.assertIsNot(changed, call())
            changed.reverse()
            changed.append(None)
            self.assert_same(call(), told)

    def test_3_a_history_that_was_told_is_not_changed_by_changing_what_was_asked(self):
        kinds, setting = ["read", "take"], [work_of(2).whole()]
        told = judged(Rule.latest(), "back", setting, deeds=kinds)
        as_it_was = copy.deepcopy(told)
        kinds.clear()
        setting.clear()
        self.assert_same(told, as_it_was)

    def test_3_refused_objects_are_not_changed(self):
        work = work_of(3)
        device = Shelf(RULE).device([work.whole()])
        for call in (
            lambda thing: Rule(thing, thing),
            lambda thing: Rule([thing, thing], thing),
            lambda thing: Rule(RULE.fields(), thing),
            lambda thing: played(RULE, thing, thing),
            lambda thing: faults(RULE, [thing], thing),
            lambda thing: played(RULE, 2, thing),
            lambda thing: played(RULE, 2, [thing]),
            lambda thing: judged(RULE, thing, 2),
            lambda thing: judged(RULE, "back", thing),
            lambda thing: judged(RULE, "back", 1, deeds=thing),
            lambda thing: is_run(RULE, "back", 1, thing),
            lambda thing: is_never(RULE, "back", 1, thing),
            lambda thing: is_never(RULE, "nobody", [work.whole()], [thing, [thing, thing, thing]]),
            lambda thing: rules_parted(RULE, RULE, 1, deeds=thing, most=1),
            lambda thing: needed(RULE, thing, 1),
            lambda thing: Shelf(RULE).device(thing),
            lambda thing: Shelf(RULE).device([work.whole(), thing]),
            device.jump,
            device.show,
            device.read,
        ):
            for thing in anything():
                as_it_was = copy.deepcopy(thing)
                try:
                    call(thing)
                except LeafError:
                    pass
                self.assert_same(thing, as_it_was)

    def test_3_no_question_changes_a_rule_an_edition_or_another_question(self):
        rule, setting = Rule.newest(), [work_of(2).whole(), Edition(work_of(2), [])]
        first = judged(rule, "ahead", setting, most=3000)
        for fault in ("back", "nobody", "lost"):
            try:
                judged(rule, fault, setting, most=300)
            except TooMany:
                pass
        played(rule, setting, [("read", 0, 1), ("give", 0), ("take", 1)])
        self.assert_same(judged(rule, "ahead", setting, most=3000), first)
        self.assert_equal_things(rule, Rule.newest())
        self.assertEqual([edition.passages() for edition in setting], [work_of(2).passages(), []])


class TestRefusals(LeafCase):
    def test_4_the_first_error_that_applies(self):
        rule = Rule.latest()
        fields = [field_with("a"), field_with("a", read="x"), None]
        self.assert_refused("BadRule", (1, "name"), Rule, fields, None)
        self.assert_refused("BadRule", (0, "field"), Rule, [None] * 5, None)
        self.assert_refused("BadSetting", (), played, rule, 0, None)
        self.assert_refused("BadDeed", (1,), faults, rule, 1, [("give", 0), None, ("give", 7)])
        self.assert_refused("BadSetting", (), judged, rule, "x", 4, deeds=[], most=1)
        self.assert_refused("BadFault", ("x",), judged, rule, "x", 3, deeds=[], most=1)
        self.assert_refused("BadKinds", ([],), judged, rule, "back", 3, deeds=[], most=1)
        self.assert_refused("BadSetting", (), rules_parted, rule, rule, [], deeds=None, most=1)
        self.assert_refused("BadKinds", (None,), rules_parted, rule, rule, 1, deeds=None, most=1)
        self.assert_refused("BadText", (1,), Rule.of_text, "show field f\nfield\n")
        self.assert_refused("BadEdition", (0,), Shelf(rule).device, [None, work_of(2), None])

    def test_4_a_refused_call_changes_nothing(self):
        work, foreign = work_of(4), work_of(4, "v")
        shelf = Shelf(RULE)
        device = shelf.device([work.whole(), work_of(2, "u").whole()])
        device.read(5)
        device.give()
        device.jump(Place(work.whole(), 3))

        def put(values):
            shelf[work] = values

        for call in (
            lambda: put([5, 0]),
            lambda: put([1]),
            lambda: shelf.device([work.whole(), work.whole()]),
            lambda: device.jump(Place(foreign.whole(), 1)),
            lambda: device.jump(None),
            lambda: device.show(foreign.whole()),
            lambda: device.show(work_of(2, "u").whole()),
            lambda: device.read(0),
            lambda: device.read(True),
            lambda: device.away(device.give),
            lambda: device.away(device.take),
        ):
            told = []
            for _ in range(2):
                with self.assertRaises(LeafError) as caught:
                    call()
                told.append((type(caught.exception), vars(caught.exception)))
            self.assertEqual(told[0], told[1])
            self.assert_same((device.part, device.place.count, device.is_away()), (0, 3, False))
            self.assert_same([place.count for place in device.places()], [3, 1])
            self.assert_same(device.marks(), [(3, 3), (1, 1)])
            self.assert_same((shelf[work], shelf[work_of(2, "u")], shelf[foreign]), ((4, 4), (1, 1), (0, 0)))
            self.assertEqual(shelf.works(), [work, work_of(2, "u")])

    def test_4_too_many_again_and_again(self):
        for _ in range(2):
            self.assert_refused("TooMany", (7,), judged, Rule.furthest(), "back", 2, most=7)
        self.assert_same(judged(Rule.furthest(), "back", 1)[0], "never")


class TestKept(LeafCase):
    """Promise 50: errors that are raised keep the very object that was refused."""

    def assert_kept(self, kind, fields, call, *arguments, **named):
        with self.assertRaises(LeafError) as caught:
            call(*arguments, **named)
        self.assertIs(type(caught.exception), kind)
        for field, thing in fields.items():
            self.assertIs(getattr(caught.exception, field), thing)

    def test_50_any_object(self):
        work = work_of(3)
        shelf = Shelf(RULE)
        device = shelf.device([work.whole()])
        for thing in anything():
            is_counted = isinstance(thing, int) and not isinstance(thing, bool) and thing > 0
            self.assert_kept(BadFault, {"fault": thing}, judged, RULE, thing, 1)
            self.assert_kept(BadFault, {"fault": thing}, is_run, RULE, thing, 1, [])
            self.assert_kept(BadFault, {"fault": thing}, is_never, RULE, thing, 1, [])
            self.assert_kept(BadFault, {"fault": thing}, needed, RULE, thing, 1)
            self.assert_kept(BadKinds, {"kinds": thing}, judged, RULE, "back", 1, deeds=thing)
            self.assert_kept(BadKinds, {"kinds": thing}, is_run, RULE, "back", 1, [], deeds=thing)
            self.assert_kept(BadKinds, {"kinds": thing}, is_never, RULE, "back", 1, [], deeds=thing)
            self.assert_kept(BadKinds, {"kinds": thing}, needed, RULE, "back", 1, deeds=thing)
            self.assert_kept(BadKinds, {"kinds": thing}, rules_parted, RULE, RULE, 1, deeds=thing)
            self.assert_kept(BadMark, {"mark": thing}, shelf.__setitem__, work, thing)
            self.assert_kept(BadJump, {"thing": thing}, device.jump, thing)
            self.assert_kept(BadJump, {"thing": thing}, device.show, thing)
            if not is_counted:
                self.assert_kept(BadCount, {"count": thing}, device.read, thing)

    def test_50_things_of_the_package(self):
        work, foreign = work_of(3), work_of(3, "v")
        device = Shelf(RULE).device([work.whole()])
        for thing in (work, work.whole(), foreign, foreign.whole(), Place(foreign.whole(), 1)):
            self.assert_kept(BadJump, {"thing": thing}, device.jump, thing)
        for thing in (work, foreign, foreign.whole(), Place(work.whole(), 1), Place(foreign.whole(), 1)):
            self.assert_kept(BadJump, {"thing": thing}, device.show, thing)

    def test_50_numbers_and_none(self):
        device = Shelf(RULE).device([work_of(3).whole()])
        self.assert_kept(TooMany, {"most": 1}, judged, RULE, "back", 1, most=1)
        self.assert_kept(BadDeed, {"index": 0}, played, RULE, 1, None)
        self.assert_kept(BadEdition, {"index": 0}, Shelf(RULE).device, None)
        self.assert_kept(BadSetting, {}, played, RULE, None, None)
        self.assert_kept(Away, {}, device.away, device.give)


if __name__ == "__main__":
    unittest.main()
