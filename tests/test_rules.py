"""Promises 20, 21 and 24: rules, their texts, and the four that are known."""

import itertools
import random
import unittest

from leafmarks.rules import Rule
from leafmarks.works import Edition
from tests.helpers import HUGE, LeafCase, anything, integers, others, work_of
from tests.telling import FAR, LATE, WAYS, WORDS, field_with

COLUMNS = list(WORDS)
REASONS = ["name", *COLUMNS]
SHOW = ("field", "f")


def with_wrong(field, *changes):
    """A field with other things in the places of the reasons."""
    parts = list(field)
    for reason, thing in changes:
        parts[REASONS.index(reason)] = thing
    return tuple(parts)


def words_that_stand(reason):
    return WORDS[reason] if reason in WORDS else ("f",)


def wrong_words(column):
    """Words that stand in another place only, and objects that stand in none."""
    all_words = sorted({word for words in WORDS.values() for word in words} | set(WAYS) | {"f", "field", "show"})
    return [word for word in all_words if word not in WORDS[column]] + others() + integers()


class TestMade(LeafCase):
    def test_20_each_word_in_each_place(self):
        for column, words in WORDS.items():
            for word in words:
                field = field_with(**{column: word})
                rule = Rule([field], SHOW)
                self.assert_same(rule.fields(), [field])
                self.assert_same(rule.show(), SHOW)

    def test_20_all_rules_of_one_field(self):
        for words in itertools.product(*WORDS.values()):
            self.assert_same(Rule([("f", *words)], SHOW).fields(), [("f", *words)])

    def test_20_one_to_three_fields_and_each_that_is_shown(self):
        fields = [field_with("a"), field_with("bbbbbbbb", read="no"), field_with("z", take="later", kept="floored")]
        for many in (1, 2, 3):
            for way in WAYS:
                for field in fields[:many]:
                    rule = Rule(fields[:many], (way, field[0]))
                    self.assert_same(rule.fields(), fields[:many])
                    self.assert_same(rule.show(), (way, field[0]))

    def test_20_names_may_be_words_of_other_places(self):
        for name in ("no", "last", "read", "kept", "exact", "stay", "field", "show", "greater", "z", "abcdefgh"):
            self.assert_same(Rule([field_with(name)], ("stay", name)).show(), ("stay", name))


class TestFieldsRefused(LeafCase):
    def assert_bad(self, index, reason, fields, show=SHOW):
        self.assert_refused("BadRule", (index, reason), Rule, fields, show)
        self.assert_refused("BadRule", (index, reason), Rule, show=show, fields=fields)

    def test_20_no_list(self):
        for thing in anything() + ["field", "abcdefg", work_of(2), work_of(2).whole()]:
            if not isinstance(thing, (list, tuple)):
                self.assert_bad(0, "field", thing)

    def test_20_no_fields(self):
        self.assert_bad(0, "field", [])
        self.assert_bad(0, "field", ())
        self.assert_bad(0, "field", [], None)

    def test_20_no_field(self):
        good = field_with()
        for thing in anything() + [good[:6], good + ("exact",), list(good[:6]), {"f": good}, "abcdefg", dict.fromkeys(good)]:
            self.assert_bad(0, "field", [thing])
            self.assert_bad(1, "field", [good, thing])
            self.assert_bad(2, "field", (list(good), field_with("g"), thing))

    def test_20_a_field_alone_is_no_list_of_fields(self):
        self.assert_bad(0, "field", field_with())
        self.assert_bad(0, "field", list(field_with()))

    def test_20_a_fourth_field(self):
        fields = [field_with(name) for name in "abc"]
        for thing in [field_with("d"), list(field_with("d")), None, field_with("a"), 3, ["x"], field_with("d", read="x")]:
            self.assert_bad(3, "field", fields + [thing], ("field", "a"))
            self.assert_bad(3, "field", tuple(fields + [thing, thing]), None)

    def test_20_a_wrong_field_ahead_of_a_fourth_one(self):
        fields = [field_with(name) for name in "abcd"]
        self.assert_bad(2, "take", fields[:2] + [field_with("c", take="lower")] + fields[3:], ("field", "a"))
        self.assert_bad(1, "field", [fields[0], None] + fields[2:], ("field", "a"))

    def test_20_names_that_are_none(self):
        for thing in others() + integers():
            self.assert_bad(0, "name", [with_wrong(field_with(), ("name", thing))])
            self.assert_bad(1, "name", [field_with(), list(with_wrong(field_with("g"), ("name", thing)))])

    def test_20_a_name_that_stands_ahead(self):
        self.assert_bad(1, "name", [field_with(), field_with()])
        self.assert_bad(2, "name", [field_with(), field_with("g"), field_with(read="no")])
        self.assert_bad(2, "name", [field_with(), field_with("g"), field_with("g")])
        self.assert_bad(1, "name", [field_with(), field_with(read="lower"), field_with("h", read="lower")])

    def test_20_each_wrong_word_alone_and_behind_right_fields(self):
        for column in COLUMNS:
            for word in wrong_words(column):
                wrong = with_wrong(field_with("h"), (column, word))
                self.assert_bad(0, column, [wrong])
                self.assert_bad(0, column, (list(wrong), field_with()))
                self.assert_bad(1, column, [field_with(), wrong])
                self.assert_bad(2, column, [field_with(), field_with("g"), wrong])

    def test_20_several_reasons_in_one_field(self):
        for first, second in itertools.combinations(REASONS, 2):
            for thing in ("x1", None, [], HUGE):
                wrong = with_wrong(field_with(), (first, thing), (second, thing))
                self.assert_bad(0, first, [wrong])
                self.assert_bad(1, first, [field_with("g"), wrong], None)

    def test_20_wrong_things_in_several_fields(self):
        for first, second in itertools.product(REASONS, repeat=2):
            one = with_wrong(field_with("a"), (first, ["no"]))
            other = with_wrong(field_with("b"), (second, 0))
            self.assert_bad(0, first, [one, other])
            self.assert_bad(1, first, [field_with("c"), one, other])
            self.assert_bad(1, first, [field_with("c"), one, "nothing", None, None])


class TestShowRefused(LeafCase):
    def assert_bad(self, show, names="f"):
        fields = [field_with(name) for name in names]
        self.assert_refused("BadRule", (None, "show"), Rule, fields, show)
        self.assert_refused("BadRule", (None, "show"), Rule, show=show, fields=tuple(fields))

    def test_20_no_pair(self):
        for thing in anything() + ["ab", ("field",), ["field"], ("field", "f", "f"), ("field", "f", None), {"field": "f"}]:
            self.assert_bad(thing)

    def test_20_no_way(self):
        for thing in anything() + ["no", "last", "show", "f", "exact", "raise", "Field", ["field"], ("field", "f")]:
            self.assert_bad((thing, "f"))
            self.assert_bad([thing, "f"])

    def test_20_no_name_of_a_field(self):
        for way in WAYS:
            for thing in others() + integers() + ["b", "z", "ff", "way", ["f"], ("f",)]:
                self.assert_bad((way, thing))
                self.assert_bad([way, thing], "fg")

    def test_20_the_pair_turned_round(self):
        self.assert_bad(("f", "field"))
        self.assert_bad(("field", "field"))

    def test_20_a_wrong_field_is_refused_first(self):
        for show in (None, "f", ("field", "x"), ("x", "f")):
            self.assert_refused("BadRule", (0, "kept"), Rule, [field_with(kept="x")], show)
            self.assert_refused("BadRule", (1, "name"), Rule, [field_with(), field_with()], show)


class TestEqual(LeafCase):
    def test_21_equal_rules(self):
        fields = [field_with("a"), field_with("b", read="row")]
        for other in (
            Rule(fields, ("stay", "b")),
            Rule(tuple([list(field) for field in fields]), ["stay", "b"]),
            Rule(show=("stay", "b"), fields=fields),
        ):
            self.assert_equal_things(Rule(fields, ("stay", "b")), other)
        rule = Rule(fields, ("stay", "b"))
        self.assert_equal_things(rule, rule)

    def test_21_unlike_in_one_word(self):
        for column, words in WORDS.items():
            for one, other in itertools.combinations(words, 2):
                self.assert_unlike_things(
                    Rule([field_with("g"), field_with(**{column: one})], SHOW),
                    Rule([field_with("g"), field_with(**{column: other})], SHOW),
                )

    def test_21_unlike_in_a_name_an_order_a_number_or_what_is_shown(self):
        a, b, c = field_with("a"), field_with("b"), field_with("c")
        rules = [
            Rule([a], ("field", "a")),
            Rule([b], ("field", "b")),
            Rule([a], ("stay", "a")),
            Rule([a], ("greater", "a")),
            Rule([a, b], ("field", "a")),
            Rule([a, b], ("field", "b")),
            Rule([b, a], ("field", "a")),
            Rule([b, a], ("field", "b")),
            Rule([a, c], ("field", "a")),
            Rule([a, b, c], ("field", "a")),
            Rule([a, c, b], ("field", "a")),
        ]
        for one, other in itertools.combinations(rules, 2):
            self.assert_unlike_things(one, other)

    def test_21_a_rule_equals_nothing_else(self):
        rule = Rule.furthest()
        for thing in anything() + [rule.text(), rule.fields(), (rule.fields(), rule.show()), Rule, work_of(2)]:
            self.assert_unlike_things(rule, thing)
        self.assert_unlike_things(rule, Edition(work_of(2), []))


class TestTexts(LeafCase):
    def test_21_the_lines_as_they_are_told(self):
        self.assert_same(
            Rule([FAR], ("greater", "far")).text(),
            "field far read raise jump no anew least give raise take raise exact\nshow greater far\n",
        )
        rule = Rule([("a", "row", "lower", "no", "later", "no", "floored"), LATE], ("stay", "late"))
        self.assert_same(
            rule.text(),
            "field a read row jump lower anew no give later take no floored\n"
            "field late read last jump last anew least give last take last exact\n"
            "show stay late\n",
        )

    def test_21_all_rules_of_one_field_written_and_read(self):
        for words in itertools.product(*WORDS.values()):
            for way in WAYS:
                rule = Rule([("ab", *words)], (way, "ab"))
                self.assert_equal_things(Rule.of_text(rule.text()), rule)

    def test_21_rules_of_two_and_three_fields_written_and_read(self):
        chance = random.Random(21)
        for many in (2, 3):
            for _ in range(100):
                names = chance.sample(["a", "no", "show", "field", "abcdefgh", "read"], many)
                fields = [(name, *[chance.choice(words) for words in WORDS.values()]) for name in names]
                rule = Rule(fields, (chance.choice(WAYS), chance.choice(names)))
                lines = rule.text().split("\n")
                self.assert_same(len(lines), many + 2)
                self.assert_same(lines[-1], "")
                read = Rule.of_text(text=rule.text())
                self.assert_equal_things(read, rule)
                self.assert_same((read.fields(), read.show(), read.text()), (fields, rule.show(), rule.text()))


class TestTextsRefused(LeafCase):
    FIELD = "field f read last jump no anew least give raise take later exact\n"
    OTHER = "field g read row jump lower anew no give no take no floored\n"
    THIRD = "field h read no jump no anew no give no take no exact\n"
    SHOW = "show field f\n"

    def assert_bad(self, line, text):
        self.assert_refused("BadText", (line,), Rule.of_text, text)
        self.assert_refused("BadText", (line,), Rule.of_text, text=text)

    def test_21_the_texts_these_start_from_are_right(self):
        Rule.of_text(self.FIELD + self.SHOW)
        Rule.of_text(self.FIELD + self.OTHER + self.THIRD + self.SHOW)

    def test_21_the_empty_text(self):
        self.assert_bad(1, "")

    def test_21_missing_lines(self):
        self.assert_bad(2, self.FIELD)
        self.assert_bad(3, self.FIELD + self.OTHER)
        self.assert_bad(4, self.FIELD + self.OTHER + self.THIRD)

    def test_21_the_show_line_at_each_place(self):
        self.assert_bad(1, self.SHOW)
        self.assert_bad(1, self.SHOW + self.FIELD)
        self.assert_bad(1, self.SHOW + self.FIELD + self.SHOW)
        self.assert_bad(3, self.FIELD + self.SHOW + self.OTHER)
        self.assert_bad(3, self.FIELD + self.SHOW + self.OTHER + self.SHOW)
        self.assert_bad(3, self.FIELD + self.SHOW + self.SHOW)
        self.assert_bad(5, self.FIELD + self.OTHER + self.THIRD + self.SHOW + self.SHOW)

    def test_21_anything_behind_the_show_line(self):
        for rest in ("\n", " ", " \n", "x", "x\n", self.FIELD, self.FIELD[:-1], "\n\n", "show field f"):
            self.assert_bad(3, self.FIELD + self.SHOW + rest)
            self.assert_bad(4, self.FIELD + self.OTHER + self.SHOW + rest)

    def test_21_four_fields(self):
        four = self.FIELD + self.OTHER + self.THIRD + self.FIELD
        self.assert_bad(4, four)
        self.assert_bad(4, four + self.SHOW)
        self.assert_bad(4, four.replace("field h", "field f") + self.SHOW)

    def test_21_a_line_without_its_line_feed(self):
        self.assert_bad(1, self.FIELD[:-1])
        self.assert_bad(2, self.FIELD + self.SHOW[:-1])
        self.assert_bad(2, self.FIELD + self.OTHER[:-1])
        self.assert_bad(1, self.FIELD[:-1] + self.SHOW)
        self.assert_bad(1, self.FIELD[:-1] + " " + self.SHOW)

    def test_21_empty_lines(self):
        self.assert_bad(1, "\n")
        self.assert_bad(1, "\n" + self.FIELD + self.SHOW)
        self.assert_bad(2, self.FIELD + "\n" + self.SHOW)

    def assert_wrong_line(self, line):
        """A line that can stand nowhere."""
        self.assert_bad(1, line + self.SHOW)
        self.assert_bad(1, line)
        self.assert_bad(2, self.FIELD + line)
        self.assert_bad(2, self.FIELD + line + self.OTHER + self.SHOW)
        self.assert_bad(3, self.FIELD + self.OTHER + line + self.SHOW + "x")

    def test_21_a_blank_or_a_word_or_a_sign_too_many_or_too_few(self):
        for right in (self.OTHER[:-1], self.SHOW[:-1]):
            words = right.split(" ")
            for at in range(len(right) + 1):
                for sign in (" ", "~", "A", "1") + (("\n",) if at < len(right) else ()):
                    self.assert_wrong_line(right[:at] + sign + right[at:] + "\n")
                if at < len(right):
                    self.assert_wrong_line(right[:at] + right[at + 1 :] + "\n")
            for at in range(len(words)):
                self.assert_wrong_line(" ".join(words[:at] + words[at + 1 :]) + "\n")
                self.assert_wrong_line(" ".join(words[: at + 1] + words[at:]) + "\n")

    def test_21_another_word_in_each_place(self):
        for right in (self.OTHER[:-1], self.SHOW[:-1]):
            words = right.split(" ")
            for at in range(len(words)):
                for word in ("", "x1", "READ", "readx", "abcdefghi", "\t", "show", "field", "stay", "exact", "kept", "f"):
                    is_name = at == (1 if words[0] == "field" else 2)
                    is_right = is_name and word.isalpha() and word.islower() and len(word) <= 8
                    is_right = is_right or word in (WAYS if words[0] == "show" and at == 1 else [])
                    is_right = is_right or word in (WORDS["kept"] if at == 12 else [])
                    if not is_right and word != words[at]:
                        self.assert_wrong_line(" ".join(words[:at] + [word] + words[at + 1 :]) + "\n")

    def test_21_words_of_other_columns(self):
        parts = self.OTHER[:-1].split(" ")
        for place, column in zip((3, 5, 7, 9, 11, 12), COLUMNS):
            for word in sorted({word for words in WORDS.values() for word in words} - set(WORDS[column])):
                self.assert_wrong_line(" ".join(parts[:place] + [word] + parts[place + 1 :]) + "\n")

    def test_21_a_name_twice_is_no_matter_of_lines(self):
        self.assert_refused("BadRule", (1, "name"), Rule.of_text, self.FIELD + self.FIELD + self.SHOW)
        self.assert_refused("BadRule", (2, "name"), Rule.of_text, self.FIELD + self.OTHER + self.OTHER + self.SHOW)
        self.assert_refused("BadRule", (1, "name"), Rule.of_text, self.FIELD + self.FIELD + "show stay x\n")
        self.assert_bad(3, self.FIELD + self.FIELD)
        self.assert_bad(4, self.FIELD + self.FIELD + self.SHOW + self.SHOW)
        self.assert_bad(4, self.FIELD * 4 + self.SHOW)

    def test_21_a_show_line_that_names_no_field(self):
        for way in WAYS:
            self.assert_refused("BadRule", (None, "show"), Rule.of_text, self.FIELD + f"show {way} g\n")
            self.assert_refused("BadRule", (None, "show"), Rule.of_text, text=self.FIELD + self.OTHER + f"show {way} x\n")
        self.assert_bad(3, self.FIELD + "show field g\n\n")


class TestKnown(LeafCase):
    def test_24_the_four_rules(self):
        told = {
            "furthest": ([("far", "raise", "no", "least", "raise", "raise", "exact")], ("greater", "far")),
            "latest": ([("late", "last", "last", "least", "last", "last", "exact")], ("field", "late")),
            "newest": ([("late", "last", "last", "least", "later", "later", "exact")], ("field", "late")),
            "inrow": ([("row", "row", "no", "least", "raise", "raise", "exact")], ("greater", "row")),
        }
        for name, (fields, show) in told.items():
            for rule in (getattr(Rule, name)(), getattr(Rule.furthest(), name)()):
                self.assertIs(type(rule), Rule)
                self.assert_same(rule.fields(), fields)
                self.assert_same(rule.show(), show)
                self.assert_equal_things(rule, Rule(fields, show))

    def test_24_each_call_returns_a_rule_of_its_own(self):
        Rule.furthest().fields().clear()
        self.assert_same(Rule.furthest().fields(), [FAR])


if __name__ == "__main__":
    unittest.main()
