"""Promises 25, 26 and 28: settings, histories that are played, and their texts."""

import random
import unittest

from leafmarks.histories import faults, history_text, played, read_history
from leafmarks.judging import is_never, is_run, judged, needed, rules_parted
from leafmarks.rules import Rule
from leafmarks.works import Edition, Work
from tests.helpers import HUGE, LeafCase, anything, edition_of, integers, others, work_of
from tests.telling import KINDS, drawn_history, rule_with, told_of


def wrong_settings():
    work = work_of(3)
    edition, foreign = work.whole(), Work("v", work.passages()).whole()
    longer, shorter = work_of(4).whole(), edition_of(work_of(2), [0])
    numbers = [number for number in integers() if number not in (1, 2)]
    return [
        *numbers,
        0,
        4,
        -1,
        *others(),
        "a",
        "3",
        work,
        edition,
        [],
        (),
        [work],
        [edition, work],
        [edition, None],
        [None, edition],
        [1],
        [1, 2],
        [edition, 1],
        [[edition]],
        [edition, [edition]],
        [(edition, edition)],
        {"a": edition},
        [edition, foreign],
        [edition, edition, foreign],
        [foreign, edition, edition],
        [edition, longer],
        (shorter, edition),
        [edition] * 4,
        (edition,) * 5,
        [True],
    ]


class TestSettings(LeafCase):
    def assert_setting(self, setting, many):
        told = played(Rule.furthest(), setting, [("anew", many - 1)])
        self.assert_same(told, [((0,) * many, ((0,),) * (many + 1))])
        self.assert_refused("BadDeed", (0,), played, Rule.furthest(), setting, [("anew", many)])

    def test_25_numbers(self):
        for number in (1, 2, 3):
            self.assert_setting(number, number)

    def test_25_lists_of_editions(self):
        for many in (1, 2, 3):
            work = work_of(4)
            setting = [edition_of(work_of(4), numbers) for numbers in ([0, 1], [], [2, 3])[:many]]
            self.assert_setting(setting, many)
            self.assert_setting(tuple(setting), many)
            self.assert_setting([work.whole()] * many, many)

    def test_25_any_other_object(self):
        rule = Rule.furthest()
        for setting in wrong_settings():
            self.assert_refused("BadSetting", (), played, rule, setting, [])
            self.assert_refused("BadSetting", (), faults, rule, setting, [])
            self.assert_refused("BadSetting", (), played, history=None, setting=setting, rule=rule)
            self.assert_refused("BadSetting", (), faults, rule, setting, "x")
            self.assert_refused("BadSetting", (), judged, rule, "back", setting)
            self.assert_refused("BadSetting", (), is_run, rule, "back", setting, [])
            self.assert_refused("BadSetting", (), is_never, rule, "back", setting, [])
            self.assert_refused("BadSetting", (), rules_parted, rule, rule, setting)
            self.assert_refused("BadSetting", (), needed, rule, "back", setting)


class TestPlayed(LeafCase):
    def test_26_the_history_without_deeds(self):
        for setting in (1, 3, [work_of(2).whole()]):
            self.assert_same(played(Rule.latest(), setting, []), [])
            self.assert_same(played(Rule.latest(), setting, ()), [])

    def test_26_each_deed_tells_places_and_marks(self):
        rule = Rule([*Rule.latest().fields(), *Rule.furthest().fields()], ("field", "late"))
        history = [("read", 0, 5), ("jump", 0, 2), ("give", 0), ("read", 1, 3), ("take", 1), ("anew", 1)]
        told = [
            ((5, 0), ((5, 5), (0, 0), (0, 0))),
            ((2, 0), ((2, 5), (0, 0), (0, 0))),
            ((2, 0), ((2, 5), (0, 0), (2, 5))),
            ((2, 3), ((2, 5), (3, 3), (2, 5))),
            ((2, 2), ((2, 5), (2, 5), (2, 5))),
            ((2, 0), ((2, 5), (0, 0), (2, 5))),
        ]
        whole = work_of(5).whole()
        for setting in (2, [whole, whole], (whole, work_of(5).whole())):
            self.assert_same(played(rule, setting, history), told)
            self.assert_same(played(rule, setting, tuple(history)), told)
            self.assert_same(played(rule, setting, [list(deed) for deed in history]), told)

    def test_26_three_devices(self):
        told = played(Rule.furthest(), 3, [("read", 2, 4), ("give", 2), ("take", 0), ("jump", 1, 1)])
        self.assert_same(told[-1], ((4, 1, 4), ((4,), (0,), (4,), (4,))))

    def test_26_editions_stand_where_they_stand(self):
        work = work_of(6)
        for numbers in ([], [0], [1, 4], [0, 1, 2, 3, 4, 5], [5]):
            setting = [work.whole(), edition_of(work, numbers)]
            for place in list(range(0, 9)):
                stands = place == 0 or place - 1 in numbers
                if stands:
                    self.assert_same(played(Rule.latest(), setting, [("jump", 1, place)])[0][0], (0, place))
                else:
                    self.assert_refused("BadDeed", (0,), played, Rule.latest(), setting, [("jump", 1, place)])
                if stands and place > 0:
                    self.assert_same(played(Rule.latest(), setting, [("read", 1, place)])[0][0], (0, place))
                else:
                    self.assert_refused("BadDeed", (0,), played, Rule.latest(), setting, [("read", 1, place)])

    def test_26_a_number_stands_at_each_place(self):
        for place in (0, 1, 61, 999999, 10**6):
            self.assert_same(played(Rule.latest(), 1, [("jump", 0, place)]), [((place,), ((place,), (0,)))])

    def test_26_a_jump_to_the_very_place(self):
        self.assert_same(played(Rule.latest(), 1, [("jump", 0, 0), ("jump", 0, 3), ("jump", 0, 3)])[-1][0], (3,))

    def test_26_drawn_histories_of_any_kind(self):
        chance = random.Random(26)
        work = work_of(7)
        for rule in (Rule.furthest(), Rule.latest(), Rule.newest(), Rule.inrow()):
            for setting in (1, 2, 3, [work.whole()] * 2, [edition_of(work, [0, 2, 5]), edition_of(work, [1, 2, 6])]):
                history = drawn_history(chance, [rule], setting, 60)
                self.assertEqual({deed[0] for deed in history}, set(KINDS))
                places = [tuple(telling.places) for telling, _ in told_of([rule], setting, history)]
                self.assert_same([told for told, _ in played(rule, setting, history)], places)

    def test_26_numbers_and_editions_of_all_passages_play_alike(self):
        chance = random.Random(62)
        for many in (1, 2, 3):
            for _ in range(20):
                history = drawn_history(chance, [Rule.newest()], many, 20)
                editions = [work_of(6).whole() for _ in range(many)]
                self.assert_same(played(Rule.newest(), editions, history), played(Rule.newest(), many, history))


class TestDeedsRefused(LeafCase):
    AHEAD = [("read", 0, 3), ("give", 0), ("jump", 1, 2), ("take", 1), ("anew", 0)]

    def assert_bad(self, deed, setting=2):
        """A thing that is no deed that can be done behind any beginning of a history."""
        rule = rule_with("stay")
        for many, rest in ((0, []), (1, [("give", 0)]), (4, [deed, None]), (5, [])):
            history = self.AHEAD[:many] + [deed] + rest
            self.assert_refused("BadDeed", (many,), played, rule, setting, history)
            self.assert_refused("BadDeed", (many,), faults, setting=setting, history=tuple(history), rule=rule)

    def test_26_no_list(self):
        for thing in anything() + ["read", Rule.latest(), {("give", 0): 1}]:
            if not isinstance(thing, (list, tuple)):
                self.assert_refused("BadDeed", (0,), played, Rule.latest(), 2, thing)
                self.assert_refused("BadDeed", (0,), faults, Rule.latest(), [work_of(2).whole()], thing)

    def test_26_a_deed_alone_is_no_history(self):
        self.assert_refused("BadDeed", (0,), played, Rule.latest(), 2, ("give", 0))
        self.assert_refused("BadDeed", (0,), played, Rule.latest(), 2, ["read", 0, 3])

    def test_26_no_deed_at_all(self):
        for thing in anything() + ["read", "give 0", ("reads", 0, 3), ("show", 0), {"give": 0}, [("give", 0)]]:
            self.assert_bad(thing)
            if thing != "read":
                self.assert_bad((thing, 0))
                self.assert_bad((thing, 0, 4))

    def test_26_too_few_and_too_many_things(self):
        for kind in KINDS:
            self.assert_bad((kind,))
            self.assert_bad([kind])
            self.assert_bad((kind, 0, 4, 5))
            self.assert_bad([kind, 0, 4, None])
            self.assert_bad((kind, 0) if kind in ("read", "jump") else (kind, 0, 4))

    def test_26_a_device_that_there_is_not(self):
        work = work_of(5)
        for device in others() + [-1, 2, 3, HUGE, -HUGE, "0"]:
            for setting in (2, [work.whole(), work.whole()]):
                for deed in (("read", device, 5), ("jump", device, 1), ("anew", device), ("give", device), ["take", device]):
                    self.assert_bad(deed, setting)
        for setting, many in ((1, 1), (3, 3), ([work.whole()], 1), ([work.whole()] * 3, 3)):
            self.assert_refused("BadDeed", (0,), played, Rule.latest(), setting, [("give", many)])
            self.assert_same(len(played(Rule.latest(), setting, [("give", many - 1)])), 1)

    def test_26_a_place_that_is_none(self):
        for place in others() + [-1, -HUGE, "1"]:
            self.assert_bad(("read", 1, place))
            self.assert_bad(["jump", 0, place])
            self.assert_bad(("jump", 0, place), [work_of(5).whole()] * 2)

    def test_26_a_place_beyond_the_work(self):
        for place in (6, 7, HUGE):
            for kind in ("read", "jump"):
                self.assert_bad((kind, 0, place), [work_of(5).whole()] * 2)

    def test_26_a_read_deed_to_the_place_and_below_it(self):
        for setting in (1, [work_of(6).whole()]):
            for ahead, place in (([], 0), ([("read", 0, 4)], 4), ([("jump", 0, 4)], 4), ([("read", 0, 5), ("jump", 0, 4)], 4)):
                for there in range(place + 1):
                    history = ahead + [("read", 0, there)]
                    self.assert_refused("BadDeed", (len(ahead),), played, Rule.latest(), setting, history)
                    self.assert_same(len(played(Rule.latest(), setting, ahead + [("jump", 0, there)])), len(ahead) + 1)
                self.assert_same(len(played(Rule.latest(), setting, ahead + [("read", 0, place + 1)])), len(ahead) + 1)

    def test_26_what_the_rule_shows_counts(self):
        # By the one rule the device goes to 4 when it takes, by the other one it stays.
        history = [("read", 0, 4), ("give", 0), ("take", 1), ("read", 1, 3)]
        self.assert_refused("BadDeed", (3,), played, rule_with("field"), 2, history)
        self.assert_same(played(rule_with("stay"), 2, history)[-1][0], (4, 3))

    def test_26_the_first_one_that_cannot_be_done(self):
        history = [("give", 0), ("take", 1), ("read", 0, 0), None, ("read", 0, 5), ("give", 9)]
        self.assert_refused("BadDeed", (2,), played, Rule.latest(), 2, history)
        history[2] = ("jump", 0, 0)
        self.assert_refused("BadDeed", (3,), played, Rule.latest(), 2, history)
        history[3] = ("anew", 0)
        self.assert_refused("BadDeed", (5,), played, Rule.latest(), 2, history)


class TestTexts(LeafCase):
    HISTORY = [("read", 0, 5), ("jump", 2, 0), ("anew", 1), ("give", 0), ("take", 2), ("jump", 1, 10**6)]
    TEXT = "read 0 5\njump 2 0\nanew 1\ngive 0\ntake 2\njump 1 1000000\n"

    def test_28_written(self):
        self.assert_same(history_text(self.HISTORY), self.TEXT)
        self.assert_same(history_text(history=tuple([list(deed) for deed in self.HISTORY])), self.TEXT)
        self.assert_same(history_text([]), "")
        self.assert_same(history_text(()), "")

    def test_28_read(self):
        self.assert_same(read_history(self.TEXT), self.HISTORY)
        self.assert_same(read_history(text=self.TEXT), self.HISTORY)
        self.assert_same(read_history(""), [])

    def test_28_whether_deeds_can_be_done_is_not_looked_at(self):
        history = [("read", 0, 0), ("read", 2, 7), ("read", 2, 7), ("jump", 1, HUGE)]
        self.assert_same(read_history(history_text(history)), history)

    def test_28_drawn_histories_written_and_read(self):
        chance = random.Random(28)
        for many in (1, 2, 3):
            for _ in range(30):
                history = drawn_history(chance, [Rule.latest()], many, 30, 10**6 if many == 2 else 12)
                text = history_text(history)
                self.assertEqual(text, "".join(" ".join(str(part) for part in deed) + "\n" for deed in history))
                self.assert_same(read_history(text), history)

    def assert_bad(self, line, text):
        self.assert_refused("BadText", (line,), read_history, text)
        self.assert_refused("BadText", (line,), read_history, text=text)

    def assert_wrong_line(self, line):
        self.assert_bad(1, line + "\n")
        self.assert_bad(1, line + "\n" + self.TEXT)
        self.assert_bad(7, self.TEXT + line + "\n")
        self.assert_bad(3, "give 0\ntake 1\n" + line + "\ntake 0\n" + line + "\n")

    def test_28_lines_that_are_no_deeds(self):
        for line in [
            "", " ", "x", "read", "give", "read 0", "read 0 5 6", "give 0 5", "anew", "anew 0 0", "take 0 1 2",
            "0 read 5", "reads 0 5", "rea 0 5", "Read 0 5", "READ 0 5", "show 0", "back 0", "read 5", "field 0",
            " read 0 5", "read 0 5 ", "read  0 5", "read 0  5", "read\t0 5", "give 0 ", " give 0", "give  0", "give0",
        ]:  # fmt: skip
            self.assert_wrong_line(line)

    def test_28_numbers_that_str_does_not_write(self):
        for number in ("", "-1", "+1", "01", "00", "1.0", "1_0", "1e1", "x", "1x", "0x1", "~", "None", "True", "-0", "(1)"):
            self.assert_wrong_line(f"read 0 {number}")
            self.assert_wrong_line(f"jump {number} 5")
            self.assert_wrong_line(f"give {number}")

    def test_28_devices(self):
        for device in (0, 1, 2):
            for kind in ("anew", "give", "take"):
                self.assert_same(read_history(f"{kind} {device}\n"), [(kind, device)])
            for kind in ("read", "jump"):
                self.assert_same(read_history(f"{kind} {device} 0\n"), [(kind, device, 0)])
        for device in (3, 4, 9, 10, 12, 20, HUGE):
            for kind in ("anew", "give", "take"):
                self.assert_wrong_line(f"{kind} {device}")
            for kind in ("read", "jump"):
                self.assert_wrong_line(f"{kind} {device} 0")

    def test_28_a_last_line_without_its_line_feed(self):
        self.assert_bad(1, "give 0")
        self.assert_bad(1, "x")
        self.assert_bad(2, "give 0\nread 0 5")
        self.assert_bad(6, self.TEXT[:-1])
        self.assert_bad(1, "giv 0\nread 0 5")

    def test_28_empty_lines(self):
        self.assert_bad(1, "\n")
        self.assert_bad(7, self.TEXT + "\n")
        self.assert_bad(2, "give 0\n\ngive 0\n")

    def test_28_the_first_of_several_wrong_lines(self):
        self.assert_bad(2, "give 0\ngive 3\n\nread 0")

    def test_28_one_sign_too_few_or_another(self):
        right = "jump 2 10"
        for at in range(len(right)):
            for sign in ("", "~", "A", "-", "\n"):
                line = right[:at] + sign + right[at + 1 :]
                if line not in ("jump 2 1", "jump 2 0") and not line.endswith("\n"):
                    self.assert_bad(1, line + "\n")


if __name__ == "__main__":
    unittest.main()
