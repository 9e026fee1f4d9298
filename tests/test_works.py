"""Promise 6: works."""

import unittest

from leafmarks.places import Place
from leafmarks.walks import Walk
from leafmarks.works import Edition, Work
from tests.helpers import HUGE, LeafCase, anything, integers, letters, others, work_of


class TestTold(LeafCase):
    def test_6_what_a_work_tells(self):
        work = Work("w", ["b", "a", "zz", "abcdefgh"])
        self.assert_same(work.name, "w")
        self.assert_same(work.passages(), ["b", "a", "zz", "abcdefgh"])
        self.assert_same(len(work), 4)

    def test_6_a_work_of_one_passage(self):
        work = Work("abcdefgh", ["w"])
        self.assert_same(work.name, "abcdefgh")
        self.assert_same(work.passages(), ["w"])
        self.assert_same(len(work), 1)

    def test_6_a_passage_may_have_the_name_of_the_work(self):
        self.assert_same(Work("a", ["b", "a"]).passages(), ["b", "a"])

    def test_6_the_whole_is_the_edition_of_all(self):
        for length in (1, 2, 7):
            work = work_of(length)
            self.assertIs(type(work.whole()), Edition)
            self.assert_equal_things(work.whole().work, work)
            self.assert_same(work.whole().passages(), letters(length))
            self.assert_equal_things(work.whole(), Edition(work, letters(length)))

    def test_6_in_tells_of_any_object(self):
        work = Work("w", ["b", "a", "abcdefgh"])
        for word in ("b", "a", "abcdefgh"):
            self.assert_true(word in work)
            self.assert_false(word not in work)
        for thing in others() + integers() + ["w", "z", "ba", "c", "abcdefg"]:
            self.assert_false(thing in work)
            self.assert_true(thing not in work)

    def test_6_in_tells_of_works_editions_places_and_walks(self):
        work = work_of(3)
        for thing in (work, work.whole(), Place(work.whole(), 1), Walk(work, []), Edition(work, [])):
            self.assert_false(thing in work)


class TestRefused(LeafCase):
    def test_6_a_name_that_is_no_word(self):
        for thing in others() + integers():
            self.assert_refused("BadWord", (thing,), Work, thing, ["a"])

    def test_6_a_name_with_other_signs(self):
        for sign in [chr(code) for code in range(32, 127)] + ["\n"]:
            for name in (sign, "a" + sign, sign + "a", "a" + sign + "b"):
                if sign in "abcdefghijklmnopqrstuvwxyz":
                    self.assert_same(Work(name, [name]).name, name)
                else:
                    self.assert_refused("BadWord", (name,), Work, name, ["a"])
                    self.assert_refused("BadPassage", (0,), Work, "w", [name])

    def test_6_a_name_of_each_length(self):
        for length in range(0, 13):
            name = "q" * length
            if 1 <= length <= 8:
                self.assert_same(Work(name, [name]).passages(), [name])
            else:
                self.assert_refused("BadWord", (name,), Work, name, ["a"])
                self.assert_refused("BadPassage", (1,), Work, "w", ["a", name])

    def test_6_the_name_ahead_of_the_passages(self):
        for passages in (None, [], ["A"], ["a", "a"], 3, {}):
            self.assert_refused("BadWord", ("W",), Work, "W", passages)
            self.assert_refused("BadWord", (7,), Work, 7, passages)
            self.assert_refused("BadWord", ("",), Work, name="", passages=passages)

    def test_6_passages_that_are_no_list(self):
        for thing in (None, True, False, 0, 1, -1, HUGE, "", "a", "abc", {}, {"a": 1}, {"a": "b", "b": "a"}):
            self.assert_refused("BadPassage", (0,), Work, "w", thing)
        work = work_of(2)
        for thing in (work, work.whole(), Walk(work, [])):
            self.assert_refused("BadPassage", (0,), Work, "w", thing)

    def test_6_no_passages(self):
        self.assert_refused("BadPassage", (0,), Work, "w", [])
        self.assert_refused("BadPassage", (0,), Work, "w", ())

    def test_6_a_passage_that_is_no_word(self):
        for thing in others() + integers():
            for ahead in range(4):
                passages = letters(ahead) + [thing] + ["last"]
                self.assert_refused("BadPassage", (ahead,), Work, "w", passages)
                self.assert_refused("BadPassage", (ahead,), Work, "w", tuple(passages))

    def test_6_a_passage_that_stands_ahead(self):
        self.assert_refused("BadPassage", (1,), Work, "w", ["a", "a"])
        self.assert_refused("BadPassage", (3,), Work, "w", ["a", "b", "c", "a"])
        self.assert_refused("BadPassage", (2,), Work, "w", ["a", "b", "b", "c"])
        self.assert_refused("BadPassage", (59,), Work, "w", letters(59) + letters(1))

    def test_6_the_first_of_several_wrong_passages(self):
        self.assert_refused("BadPassage", (1,), Work, "w", ["a", "a", "B", "a"])
        self.assert_refused("BadPassage", (1,), Work, "w", ["a", "B", "a", 3])
        self.assert_refused("BadPassage", (0,), Work, "w", ["A", "a", "a"])
        self.assert_refused("BadPassage", (0,), Work, "w", [["a"], ["a"]])
        self.assert_refused("BadPassage", (2,), Work, "w", ["a", "b", {}, {}, "a"])


class TestEqual(LeafCase):
    def test_6_equal_works(self):
        work = Work("w", ["a", "b"])
        self.assert_equal_things(work, work)
        self.assert_equal_things(work, Work("w", ["a", "b"]))
        self.assert_equal_things(work, Work("w", ("a", "b")))

    def test_6_unlike_works(self):
        work = Work("w", ["a", "b"])
        for other in (
            Work("v", ["a", "b"]),
            Work("w", ["b", "a"]),
            Work("w", ["a"]),
            Work("w", ["a", "b", "c"]),
            Work("w", ["a", "c"]),
            Work("w", ["ab"]),
        ):
            self.assert_unlike_things(work, other)

    def test_6_a_work_equals_nothing_else(self):
        work = Work("a", ["a"])
        whole = work.whole()
        for thing in anything() + [whole, Place(whole, 0), Walk(work, [whole]), Work, ["a"], ("a",), ("a", ("a",))]:
            self.assert_unlike_things(work, thing)


if __name__ == "__main__":
    unittest.main()
