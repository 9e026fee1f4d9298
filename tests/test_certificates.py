"""Promise 33: histories and sets of states that anybody can check."""

import random
import unittest

from leafmarks.errors import TooMany
from leafmarks.histories import faults
from leafmarks.judging import is_never, is_run, judged
from leafmarks.rules import Rule
from leafmarks.works import Edition
from tests.helpers import HUGE, LeafCase, anything, edition_of, work_of
from tests.telling import FAULTS, KINDS, Telling, drawn_history, rule_with
from tests.test_judged import drawn_question


def as_lists(thing):
    return [as_lists(part) for part in thing] if isinstance(thing, (list, tuple)) else thing


def as_tuples(thing):
    return tuple(as_tuples(part) for part in thing) if isinstance(thing, (list, tuple)) else thing


def telling_at(rule, fault, setting, state):
    """A telling that stands at a state."""
    telling = Telling([rule], setting)
    values, stamps, seen = [list(part) for part in state]
    for device in range(telling.many):
        telling.places[device] = values.pop(0)
        telling.marks[device] = [values.pop(0) for _ in telling.fields]
    telling.marks[-1] = [values.pop(0) for _ in telling.fields]
    telling.stamps = stamps or telling.stamps
    telling.come = {0, *seen}
    if fault == "ahead":
        telling.row = values.pop(0)
    elif fault == "lost":
        telling.top = values.pop(0)
    assert not values
    return telling


def is_closed(rule, fault, setting, kinds, states):
    """Whether states of the right form have the beginning among them, and lead to each other without the fault."""
    known = set(states)
    if Telling([rule], setting).state(fault) not in known:
        return False
    for state in known:
        telling = telling_at(rule, fault, setting, state)
        for deed in telling.deeds(kinds):
            after = telling.copy()
            if fault in after.do(deed) or after.state(fault) not in known:
                return False
    return True


class TestRuns(LeafCase):
    HISTORY = [("read", 0, 1), ("take", 0)]

    def assert_told(self, told, *arguments, **named):
        self.assertIs(is_run(*arguments, **named), told)

    def test_33_a_history_that_shows_the_fault_at_its_last_deed(self):
        rule = Rule.latest()
        for history in (self.HISTORY, as_lists(self.HISTORY), as_tuples(self.HISTORY)):
            self.assert_told(True, rule, "back", 1, history)
            self.assert_told(True, rule, "lost", 1, history)
            self.assert_told(False, rule, "ahead", 1, history)
            self.assert_told(False, rule, "nobody", 1, history)
            self.assert_told(True, history=history, setting=3, fault="back", rule=rule)
            self.assert_told(False, Rule.furthest(), "back", 1, history)

    def test_33_a_fault_ahead_of_the_last_deed_is_none(self):
        for rest in (("give", 0), ("read", 0, 3), ("anew", 0), ("take", 0)):
            self.assert_told(False, Rule.latest(), "back", 1, self.HISTORY + [rest])
        self.assert_told(True, Rule.latest(), "back", 1, self.HISTORY + self.HISTORY)
        self.assert_told(False, Rule.latest(), "back", 1, self.HISTORY[:1])

    def test_33_a_history_of_these_kinds(self):
        for deeds, told in (
            (["read", "take"], True),
            (("take", "read"), True),
            (["read", "jump", "anew", "give", "take"], True),
            (["take"], False),
            (["read"], False),
            (["read", "give"], False),
            (["jump", "anew", "give", "take"], False),
        ):
            self.assert_told(told, Rule.latest(), "back", 1, self.HISTORY, deeds=deeds)

    def test_33_a_history_that_can_be_done(self):
        rule = Rule.latest()
        for history in (
            [("read", 0, 0), ("take", 0)],
            [("read", 1, 1), ("take", 1)],
            [("read", 0, 2), ("read", 0, 1), ("take", 0)],
            [("read", 0, 1), ("take", 0), ("read", 0, 0)],
            [("read", 0, 1), ("take", 0), None],
            [None, ("read", 0, 1), ("take", 0)],
            [("read", 0, 1), ("take", 0, 0)],
            [("read", 0, True), ("take", 0)],
            [("read", False, 1), ("take", 0)],
            [("read", 0, 1), ["take"]],
            [("read", 0, 1), "take 0"],
        ):
            self.assert_told(False, rule, "back", 1, history)
        work = work_of(3)
        self.assert_told(False, rule, "back", [edition_of(work, [1])], self.HISTORY)
        self.assert_told(True, rule, "back", [edition_of(work, [1])], [("read", 0, 2), ("take", 0)])
        self.assert_told(False, rule, "back", [work.whole()], [("read", 0, 4), ("take", 0)])

    def test_33_any_object_as_a_history(self):
        for thing in anything() + ["read 0 1\ntake 0\n", {("read", 0, 1): ("take", 0)}, ("take", 0), [["take", 0], "take"]]:
            for fault in FAULTS:
                self.assert_told(False, Rule.latest(), fault, 1, thing)
                self.assert_told(False, Rule.latest(), fault, [work_of(2).whole()], thing)

    def test_33_drawn_histories(self):
        chance = random.Random(331)
        met = []
        for turn in range(150):
            rule, setting, kinds = drawn_question(chance, 1 + turn % 3, 1 + turn % 2)
            history = drawn_history(chance, [rule], setting, 10)
            for many in range(11):
                told = faults(rule, setting, history[:many])
                for fault in FAULTS:
                    wanted = (many - 1, fault) in told
                    self.assert_told(wanted, rule, fault, setting, history[:many])
                    allowed = all(deed[0] in kinds for deed in history[:many])
                    self.assert_told(wanted and allowed, rule, fault, setting, history[:many], deeds=kinds)
                    met.append(wanted)
        self.assertGreater(met.count(True), 40)

    def test_33_two_hundred_deeds(self):
        history = [("read", 0, place) for place in range(1, 200)] + [("take", 0)]
        self.assert_told(True, Rule.latest(), "back", 1, history)
        self.assert_told(False, Rule.furthest(), "back", 1, history)


class TestNevers(LeafCase):
    def assert_told(self, told, *arguments, **named):
        self.assertIs(is_never(*arguments, **named), told)

    def test_33_the_list_that_was_told(self):
        for rule, setting in ((Rule.furthest(), 1), (Rule.inrow(), [work_of(2).whole(), edition_of(work_of(2), [1])])):
            states = judged(rule, "back", setting)[1]
            for told in (states, as_lists(states), as_tuples(states), states[::-1], states + states[:3]):
                self.assert_told(True, rule, "back", setting, told)
                self.assert_told(True, states=told, setting=setting, fault="back", rule=rule)

    def test_33_one_state_less(self):
        for fault, deeds in (("back", KINDS), ("nobody", ["read", "give", "take"]), ("ahead", ["read", "give", "take"])):
            for setting in (1, [edition_of(work_of(3), [0, 2])]):
                states = judged(Rule.furthest(), fault, setting, deeds=deeds)[1]
                self.assertGreaterEqual(len(states), 4)
                for at in range(len(states)):
                    self.assert_told(False, Rule.furthest(), fault, setting, states[:at] + states[at + 1 :], deeds=deeds)
                self.assert_told(True, Rule.furthest(), fault, setting, states, deeds=deeds)

    def test_33_the_state_at_the_beginning_left_out(self):
        rule = rule_with("stay", read="no", jump="no", anew="no", give="no", take="no")
        # Nothing leads back to it, so the others are closed without it.
        self.assert_told(True, rule, "back", 1, [((0, 0, 0), (), ()), ((1, 0, 0), (), ())], deeds=["read"])
        self.assert_told(False, rule, "back", 1, [((1, 0, 0), (), ())], deeds=["read"])
        self.assert_told(False, rule, "back", 1, [], deeds=["read"])
        self.assert_told(False, rule, "back", 1, (), deeds=["give"])
        self.assert_told(True, rule, "back", 1, [[[0, 0, 0], [], []]], deeds=["give"])

    def test_33_one_state_more(self):
        rule = Rule.latest()
        beginning = ((0, 0, 0), (), ())
        # It cannot be come to, but nothing is wrong with it: taking, the device stays at 1.
        self.assert_told(True, rule, "back", 1, [beginning, ((1, 1, 1), (), ())], deeds=["take"])
        # The device stands at 1 and takes 0.
        self.assert_told(False, rule, "back", 1, [beginning, ((1, 0, 0), (), ())], deeds=["take"])
        self.assert_told(True, rule, "back", 1, [beginning], deeds=["take"])
        # It leads to a state that is not among them, or to one that is.
        self.assert_told(False, rule, "back", 1, [beginning, ((0, 1, 0), (), ())], deeds=["give"])
        self.assert_told(True, rule, "back", 1, [beginning, ((0, 1, 0), (), ()), ((0, 1, 1), (), ())], deeds=["give"])

    def test_33_states_of_another_question(self):
        states = judged(Rule.furthest(), "back", 1)[1]
        self.assert_told(False, Rule.latest(), "back", 1, states)
        self.assert_told(False, Rule.furthest(), "back", 2, states)
        self.assert_told(False, Rule.furthest(), "back", [work_of(1).whole()], states)
        for fault in ("ahead", "nobody", "lost"):
            self.assert_told(False, Rule.furthest(), fault, 1, states)
        two = Rule(Rule.furthest().fields() + [("b", "no", "no", "no", "no", "no", "exact")], ("greater", "far"))
        self.assert_told(False, two, "back", 1, states)
        few = judged(Rule.furthest(), "back", 1, deeds=["read", "give", "take"])[1]
        self.assert_told(True, Rule.furthest(), "back", 1, few, deeds=["read", "give", "take"])
        self.assert_told(True, Rule.furthest(), "back", 1, few, deeds=["read", "give"])
        self.assert_told(False, Rule.furthest(), "back", 1, few)

    def test_33_any_object_as_states(self):
        for thing in anything() + ["states", {((0, 0, 0), (), ()): 1}, ((0, 0, 0), (), ())]:
            for fault in FAULTS:
                for setting in (1, [work_of(2).whole()]):
                    self.assert_told(False, Rule.furthest(), fault, setting, thing)

    def test_33_any_object_as_a_state(self):
        states = judged(Rule.furthest(), "back", 1)[1]
        for thing in anything():
            self.assert_told(False, Rule.furthest(), "back", 1, states + [thing])
            self.assert_told(False, Rule.furthest(), "back", 1, [thing] + as_lists(states))

    def test_33_any_object_as_a_part_of_a_state(self):
        rule = rule_with("stay", read="no", jump="no", anew="no", give="later", take="no")
        setting = [work_of(3).whole()]
        states = judged(rule, "nobody", setting, deeds=["give"])[1]
        self.assert_told(True, rule, "nobody", setting, states, deeds=["give"])
        self.assertEqual(states, [((0, 0, 0), (0, 0), (0,))])
        right = ((1, 0, 0), (0, 0), (0, 1))
        self.assert_told(True, rule, "nobody", setting, states + [right], deeds=["give"])
        for part in range(3):
            for thing in anything():
                if thing not in ([0, 1], (0, 1)):
                    wrong = [*right[:part], thing, *right[part + 1 :]]
                    self.assert_told(False, rule, "nobody", setting, states + [wrong], deeds=["give"])
            for at in range(len(right[part])):
                for thing in anything():
                    numbers = [*right[part][:at], thing, *right[part][at + 1 :]]
                    if isinstance(thing, bool) or not isinstance(thing, int) or not 0 <= thing <= 3:
                        wrong = [*right[:part], numbers, *right[part + 1 :]]
                        self.assert_told(False, rule, "nobody", setting, states + [wrong], deeds=["give"])
        for wrong in (right[:2], right + ((),), [right], right[0], (right[0], right[1], (0, 1, 1))):
            self.assert_told(False, rule, "nobody", setting, states + [wrong], deeds=["give"])


class TestForms(LeafCase):
    """Each state is held against the form alone: with these rules and deeds every state leads to itself."""

    KINDS = ["give"]

    def rule(self, has_stamps=False):
        nothing = {"read": "no", "jump": "no", "anew": "no", "give": "no", "take": "later" if has_stamps else "no"}
        return rule_with("stay", **nothing)

    def assert_form(self, told, fault, setting, state, has_stamps=False):
        rule = self.rule(has_stamps)
        beginning = judged(rule, fault, setting, deeds=["give"])[1]
        for form in (state, as_lists(state)):
            self.assertIs(is_never(rule, fault, setting, beginning + [form], deeds=["give"]), told, state)

    def test_33_as_many_values_as_are_told(self):
        for fault, many in (("back", 3), ("ahead", 4), ("nobody", 3), ("lost", 4)):
            seen = (0,) if fault == "nobody" else ()
            for setting in (1, [work_of(2).whole()]):
                for length in range(6):
                    self.assert_form(length == many, fault, setting, ((0,) * length, (), seen))
        for setting, many in ((2, 5), (3, 7)):
            for length in range(9):
                self.assert_form(length == many, "back", setting, ((0,) * length, (), ()))

    def test_33_values_are_ranks_without_gaps(self):
        for values, told in (
            ((0, 0, 0), True), ((0, 1, 2), True), ((2, 1, 0), True), ((1, 1, 1), True), ((1, 2, 1), True), ((3, 2, 1), True),
            ((2, 2, 2), False), ((0, 2, 0), False), ((1, 3, 1), False), ((0, 1, 3), False), ((2, 3, 4), False), ((0, 0, -1), False),
            ((0, 1, True), False), ((False, 0, 0), False), ((0, 0, HUGE), False), ((HUGE, HUGE, HUGE), False), ((0, -1, 1), False),
        ):  # fmt: skip
            self.assert_form(told, "back", 1, (values, (), ()))
        for values, told in (((0, 0, 0, 1), True), ((0, 0, 1, 2), True), ((1, 1, 1, 1), True), ((0, 0, 0, 2), False), ((0, 1, 1, 3), False)):
            self.assert_form(told, "ahead", 1, (values, (), ()))
        # A greatest place that is read to, beyond all values, is lost, of the right form though it be.
        for values, told in (((0, 1, 0, 1), True), ((1, 2, 1, 1), True), ((0, 2, 0, 1), True), ((0, 2, 0, 2), False)):
            self.assert_form(told, "lost", 1, (values, (), ()))

    def test_33_values_with_gaps_beside_the_ranks_that_they_lead_to(self):
        for wrong, right in (((2, 2, 2), (1, 1, 1)), ((0, 2, 0), (0, 1, 0)), ((2, 5, 3), (1, 3, 2)), ((0, 1, 3), (0, 1, 2))):
            states = [((0, 0, 0), (), ()), (right, (), ())]
            self.assert_true(is_never(self.rule(), "back", 1, states, deeds=["give"]))
            self.assert_false(is_never(self.rule(), "back", 1, states + [(wrong, (), ())], deeds=["give"]))
        states = [((0, 0, 0), (), (0,)), ((1, 1, 2), (), (2,))]
        self.assert_true(is_never(self.rule(), "nobody", 1, states, deeds=["give"]))
        self.assert_false(is_never(self.rule(), "nobody", 1, states + [((1, 1, 2), (), (2, 3))], deeds=["give"]))
        stamps = [((0, 0, 0), row, ()) for row in ((0, 0), (0, 1))]
        self.assert_true(is_never(self.rule(True), "back", 1, stamps, deeds=["give"]))
        self.assert_false(is_never(self.rule(True), "back", 1, stamps + [((0, 0, 0), (0, 2), ())], deeds=["give"]))

    def test_33_values_are_cuts_and_the_editions_stand_at_the_places(self):
        work = work_of(4)
        setting = [edition_of(work, [0, 2]), edition_of(work, [3])]
        for values, told in (
            ((0, 0, 0, 0, 0), True), ((1, 0, 0, 0, 0), True), ((3, 0, 0, 0, 0), True), ((2, 0, 0, 0, 0), False), ((4, 0, 0, 0, 0), False),
            ((0, 0, 4, 0, 0), True), ((0, 0, 1, 0, 0), False), ((0, 0, 3, 0, 0), False), ((0, 4, 0, 0, 0), True), ((0, 2, 0, 0, 0), True),
            ((0, 0, 0, 2, 4), True), ((0, 0, 0, 5, 0), False), ((0, 0, 0, 0, 5), False), ((0, 5, 0, 0, 0), False), ((5, 0, 0, 0, 0), False),
            ((0, 0, 5, 0, 0), False), ((0, 0, 0, 0, -1), False), ((-1, 0, 0, 0, 0), False), ((0, 0, 0, HUGE, 0), False), ((HUGE, 0, 0, 0, 0), False),
            ((0, 0, 0, 0, True), False), ((True, 0, 0, 0, 0), False),
        ):  # fmt: skip
            self.assert_form(told, "back", setting, (values, (), ()))
        for row, told in ((0, True), (2, True), (4, True), (5, False), (-1, False), (None, False)):
            self.assert_form(told, "ahead", setting, ((0, 0, 0, 0, 0, row), (), ()))
            self.assert_form(told, "lost", setting, ((0, 0, 0, 0, 4, row), (), ()))

    def test_33_stamps(self):
        values = (0, 0, 0, 0, 0)
        for setting in (2, [work_of(2).whole()] * 2):
            self.assert_form(True, "back", setting, (values, (), ()))
            for stamps in ((0, 0, 0), (0,), (1,)):
                self.assert_form(False, "back", setting, (values, stamps, ()))
            # Where the shelf is as late as all devices, giving changes no stamp.
            for stamps, told in (
                ((0, 0, 0), True), ((0, 1, 1), True), ((1, 0, 1), True), ((0, 0, 1), True), ((0, 1, 2), True), ((1, 0, 2), True),
                ((1, 1, 1), False), ((0, 0, 2), False), ((0, 2, 2), False), ((0, 1, 3), False), ((1, 2, 3), False), ((1, 1, 2), False),
                ((), False), ((0, 0), False), ((0, 0, 0, 0), False), ((0, 0, -1), False), ((0, 0, True), False), ((0, 1, HUGE), False),
            ):  # fmt: skip
                self.assert_form(told, "back", setting, (values, stamps, ()), True)
            # Of the right form, but giving leads to another one.
            self.assert_form(False, "back", setting, (values, (1, 0, 0), ()), True)
            states = [(values, stamps, ()) for stamps in ((0, 0, 0), (1, 0, 0), (1, 0, 1))]
            self.assert_true(is_never(self.rule(True), "back", setting, states, deeds=["give"]))

    def test_33_seen_of_ranks(self):
        for values, seen, told in (
            ((0, 0, 0), (0,), True), ((0, 1, 2), (0,), True), ((0, 1, 2), (0, 1), True), ((0, 1, 2), (0, 2), True), ((0, 1, 2), (0, 1, 2), True),
            ((1, 1, 1), (), True), ((1, 1, 1), (1,), True), ((1, 2, 3), (1, 3), True), ((0, 0, 0), (), False), ((0, 1, 2), (1,), False),
            ((1, 1, 1), (0,), False), ((1, 1, 1), (0, 1), False), ((0, 0, 0), (0, 1), False), ((0, 1, 2), (0, 3), False),
            ((0, 1, 2), (1, 0), False), ((0, 1, 2), (0, 1, 1), False), ((0, 1, 2), (0, 0), False), ((0, 1, 2), (0, True), False), ((0, 1, 2), (0, -1), False),
        ):  # fmt: skip
            self.assert_form(told, "nobody", 1, (values, (), seen))

    def test_33_seen_of_cuts(self):
        work = work_of(4)
        for seen, told in (
            ((0,), True), ((0, 1), True), ((0, 2), True), ((0, 1, 2, 3, 4), True), ((0, 4), True), ((), False), ((1,), False), ((0, 5), False),
            ((1, 0), False), ((0, 2, 1), False), ((0, 0), False), ((0, 2, 2), False), ((0, HUGE), False), ((0, -1), False), ((-1, 0), False),
            ((0, True), False), ((False,), False),
        ):  # fmt: skip
            self.assert_form(told, "nobody", [edition_of(work, [0, 2])], ((1, 3, 4), (), seen))

    def test_33_seen_is_empty_for_the_other_faults(self):
        for setting in (1, [work_of(2).whole()]):
            for fault, values in (("back", (0, 0, 0)), ("ahead", (0, 0, 0, 0)), ("lost", (0, 0, 0, 0))):
                self.assert_form(True, fault, setting, (values, (), ()))
                self.assert_form(False, fault, setting, (values, (), (0,)))


class TestClosed(LeafCase):
    def test_33_changed_lists_by_a_plain_second_telling(self):
        chance = random.Random(333)
        met = []
        for turn in range(120):
            rule, setting, kinds = drawn_question(chance, 1, 1 + turn % 2)
            fault = FAULTS[turn % 4]
            try:
                word, states = judged(rule, fault, setting, deeds=kinds, most=60)
            except TooMany:
                continue
            if word == "run":
                continue
            more = self.states_of_the_form(chance, states)
            for changed in (
                states,
                states + more[:1],
                states + more,
                chance.sample(states, len(states)),
                [state for state in states if state != chance.choice(states)],
                [chance.choice(more) if state == states[-1] else state for state in states],
            ):
                told = is_closed(rule, fault, setting, kinds, changed)
                self.assertIs(is_never(rule, fault, setting, changed, deeds=kinds), told)
                met.append(told)
        self.assertGreater(met.count(True), 50)
        self.assertGreater(met.count(False), 50)

    def states_of_the_form(self, chance, states):
        """States of the form of these, mixed of what two of them have, where they have the same values."""
        mixed = []
        for _ in range(4):
            one, other = chance.choice(states), chance.choice(states)
            mixed.append((one[0], other[1], one[2]))
        return mixed

    def test_33_if_it_tells_true_no_history_has_the_fault(self):
        chance = random.Random(334)
        for _ in range(30):
            rule, setting, _ = drawn_question(chance, 1, 1)
            for fault in FAULTS:
                try:
                    word, told = judged(rule, fault, setting, most=200)
                except TooMany:
                    continue
                if word == "run":
                    # The states that lead to it are no proof, nor are all that come to mind.
                    telling = Telling([rule], setting)
                    states = [telling.state(fault)]
                    for deed in told:
                        telling.do(deed)
                        states.append(telling.state(fault))
                    self.assert_false(is_never(rule, fault, setting, states))
                else:
                    for _ in range(5):
                        history = drawn_history(chance, [rule], setting, 15)
                        self.assertNotIn(fault, [met for _, met in faults(rule, setting, history)])

    def test_33_an_edition_without_passages(self):
        work = work_of(2)
        setting = [Edition(work, [])]
        states = judged(Rule.latest(), "back", setting)[1]
        self.assert_same(states, [((0, 0, 0), (), ())])
        self.assert_true(is_never(Rule.latest(), "back", setting, states))


if __name__ == "__main__":
    unittest.main()
