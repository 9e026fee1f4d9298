"""What the tests share: any objects, works, all editions of a work, and how a refusal is asked for."""

import itertools
import unittest

from leafmarks import errors
from leafmarks.works import Edition, Work

HUGE = int("9" * 60)

FIELDS = {
    "BadWord": ("word",),
    "BadPassage": ("index",),
    "OtherWork": (),
    "BadCount": ("count",),
    "BadCut": ("number",),
    "BadSize": ("size",),
    "BadEdition": ("index",),
    "BadRule": ("index", "reason"),
    "BadText": ("line",),
    "BadSetting": (),
    "BadDeed": ("index",),
    "BadFault": ("fault",),
    "BadKinds": ("kinds",),
    "TooMany": ("most",),
    "BadMark": ("mark",),
    "BadJump": ("thing",),
    "Away": (),
}


def others():
    """Objects that are no integers and no words, and lists only in that they hold none of these; new ones."""
    return [
        None,
        True,
        False,
        "",
        "A",
        "aB",
        "a b",
        "a1",
        "a\n",
        "\n",
        " ",
        "~",
        "abcdefghi",
        (),
        [],
        {},
        (None,),
        [True],
        [[]],
        ["A"],
        {"a": 1},
        {"b": ["a", (1, None)]},
        [["a"], {"b": [None, (True, "x")]}],
        ((0, 1), [2, {"x": None}]),
    ]


def integers():
    """Integers from far below to far beyond what any count or cut can be."""
    return [-HUGE, -61, -2, -1, 0, 1, 2, 5, 61, 62, 1000, HUGE]


def anything():
    """Any objects: integers, words, and the rest."""
    return integers() + ["a", "b", "z", "abcdefgh"] + others()


def letters(length):
    """So many different passages, in an order that is no alphabet's."""
    words = [first + second for second in "zyx" for first in "kbtacmqzduewghijlnopr"]
    return words[:length]


def work_of(length, name="w"):
    return Work(name, letters(length))


def edition_of(work, numbers):
    """The edition of the passages with the numbers, from 0 on."""
    words = work.passages()
    return Edition(work, [words[number] for number in numbers])


def numbers_of(edition):
    """The numbers of an edition's passages in its work."""
    words = edition.work.passages()
    return [words.index(word) for word in edition.passages()]


def subsets(length):
    """All ascending lists of numbers below length."""
    return [list(row) for size in range(length + 1) for row in itertools.combinations(range(length), size)]


def all_editions(work):
    return [edition_of(work, numbers) for numbers in subsets(len(work))]


def plain_kernel(numbers, cut):
    """The kernel as the document words it, from the numbers of an edition's passages."""
    behind = [number + 1 for number in numbers if number + 1 <= cut]
    return behind[-1] if behind else 0


def plain_walk(rows, cut):
    for numbers in rows:
        cut = plain_kernel(numbers, cut)
    return cut


class LeafCase(unittest.TestCase):
    """A test case that knows of refusals and of exact results."""

    def assert_refused(self, name, fields, call, /, *args, **named):
        """The call raises the error with these very objects as its fields, and does so again."""
        for _ in range(2):
            with self.assertRaises(errors.LeafError) as caught:
                call(*args, **named)
            self.assertEqual(type(caught.exception).__name__, name)
            self.assertIs(type(caught.exception), getattr(errors, name))
            for field, worth in zip(FIELDS[name], fields, strict=True):
                self.assert_same(getattr(caught.exception, field), worth)

    def assert_same(self, got, wanted):
        """Equal, and of one kind at every depth: no tuple for a list, no True for 1."""
        self.assertIs(type(got), type(wanted), (got, wanted))
        self.assertEqual(got, wanted)
        if isinstance(wanted, (list, tuple)):
            for one, other in zip(got, wanted):
                self.assert_same(one, other)

    def assert_true(self, worth):
        self.assertIs(worth, True)

    def assert_false(self, worth):
        self.assertIs(worth, False)

    def assert_equal_things(self, one, other):
        self.assert_true(one == other)
        self.assert_true(other == one)
        self.assert_false(one != other)
        self.assert_false(other != one)

    def assert_unlike_things(self, one, other):
        self.assert_false(one == other)
        self.assert_false(other == one)
        self.assert_true(one != other)
        self.assert_true(other != one)
