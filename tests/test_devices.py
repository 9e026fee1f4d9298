"""Promises 39 to 46: devices that run."""

import random
import unittest

from leafmarks.histories import played
from leafmarks.places import Place
from leafmarks.rules import Rule
from leafmarks.shelves import Shelf
from leafmarks.walks import Walk
from leafmarks.works import Edition, Work
from tests.helpers import HUGE, LeafCase, anything, edition_of, numbers_of, plain_kernel, work_of
from tests.telling import WAYS, drawn_history, drawn_rule, field_with, rule_with


def counts(device):
    return [place.count for place in device.places()]


def cuts(device):
    return [place.cut for place in device.places()]


def seen_of(device):
    """All that a device tells of itself."""
    places = [(numbers_of(place.edition), place.edition.work.name, place.count) for place in device.places()]
    return device.part, device.place.count, numbers_of(device.shown), places, device.marks(), device.is_away()


def volume_of(*lengths):
    """Works of such lengths, and the editions of all their passages (those of length 0 of none of two)."""
    names = ["a", "b", "c", "d", "e"]
    return [work_of(length, name).whole() if length else Edition(work_of(2, name), []) for length, name in zip(lengths, names)]


class TestMade(LeafCase):
    def test_39_what_it_is_at_first(self):
        for rule, zeros in ((Rule.latest(), (0,)), (Rule([field_with("a"), field_with("b")], ("stay", "b")), (0, 0))):
            shelf = Shelf(rule)
            editions = [edition_of(work_of(4, "a"), [1, 3]), work_of(2, "b").whole(), Edition(work_of(2, "c"), [])]
            for device in (shelf.device(editions), shelf.device(tuple(editions)), shelf.device(editions=editions)):
                self.assertIs(device.shelf, shelf)
                self.assert_same(device.part, 0)
                self.assertEqual(device.shown, editions[0])
                self.assertIs(type(device.place), Place)
                self.assertEqual(device.place.edition, editions[0])
                self.assert_same(device.place.count, 0)
                self.assertIs(type(device.places()), list)
                self.assertEqual([place.edition for place in device.places()], editions)
                self.assert_same(counts(device), [0, 0, 0])
                self.assert_same(device.marks(), [zeros] * 3)
                self.assert_false(device.is_away())

    def test_39_one_edition(self):
        device = Shelf(Rule.latest()).device([work_of(2).whole()])
        self.assert_same((device.part, counts(device), device.marks()), (0, [0], [(0,)]))

    def test_39_no_list_and_none(self):
        shelf = Shelf(Rule.latest())
        for thing in anything() + [work_of(2), work_of(2).whole(), Walk(work_of(2), []), {}, "abc"]:
            self.assert_refused("BadEdition", (0,), shelf.device, thing)
            self.assert_refused("BadEdition", (0,), shelf.device, editions=thing)

    def test_39_things_that_are_no_editions(self):
        shelf = Shelf(Rule.latest())
        ahead = volume_of(2, 0, 3)
        for thing in anything() + [work_of(2, "z"), Place(work_of(2, "z").whole(), 1), [work_of(2, "z").whole()], Edition]:
            for many in range(4):
                for rest in ([], [work_of(3, "y").whole()], [thing], [ahead[0]]):
                    self.assert_refused("BadEdition", (many,), shelf.device, ahead[:many] + [thing] + rest)
                    self.assert_refused("BadEdition", (many,), shelf.device, tuple(ahead[:many] + [thing] + rest))

    def test_39_works_that_stand_ahead(self):
        shelf = Shelf(Rule.latest())
        one, two, three = volume_of(2, 2, 3)
        for editions, index in (
            ([one, one], 1),
            ([one, Edition(work_of(2, "a"), [])], 1),
            ([one, two, one], 2),
            ([one, two, work_of(2, "b").whole()], 2),
            ([one, one, None], 1),
            ([one, two, three, two, one], 3),
        ):
            self.assert_refused("BadEdition", (index,), shelf.device, editions)
        # Like in a name or in passages alone they are unequal.
        same = Work("z", one.work.passages()).whole()
        self.assert_same(len(shelf.device([one, same, work_of(3, "a").whole()]).places()), 3)

    def test_39_refused_it_changes_nothing(self):
        shelf = Shelf(Rule.latest())
        editions = volume_of(2, 2) + [None]
        self.assert_refused("BadEdition", (2,), shelf.device, editions)
        self.assertEqual(len(editions), 3)
        self.assertEqual(shelf.works(), [])

    def test_40_the_lists_are_new_ones(self):
        device = Shelf(Rule.latest()).device(volume_of(2, 3))
        device.places().clear()
        device.marks()[0] = (9,)
        self.assert_same((counts(device), device.marks()), ([0, 0], [(0,), (0,)]))
        self.assertIsNot(device.marks(), device.marks())
        self.assertIsNot(device.places(), device.places())

    def test_39_the_list_that_was_passed_may_be_changed(self):
        editions = volume_of(2, 3)
        device = Shelf(Rule.latest()).device(editions)
        editions.reverse()
        editions.pop()
        self.assert_same(len(device.shown), 2)
        self.assert_same(device.read(5), [(0, 0, 2), (1, 0, 3)])
        self.assertEqual(len(editions), 1)

    def test_40_places_that_were_told_stay(self):
        device = Shelf(Rule.latest()).device(volume_of(4))
        place = device.place
        device.read(2)
        self.assert_same((place.count, device.place.count), (0, 2))


class TestOneEdition(LeafCase):
    """A device of one edition does just what a device of points 22 and 23 does."""

    def do(self, devices, deed):
        kind, number, *there = deed
        device = devices[number]
        if kind == "jump":
            whole = device.shown.work.whole()
            self.assertIsNone(device.jump(Place(whole, there[0])))
        elif kind == "read":
            count = device.shown.count_at(there[0])
            start = device.place.count
            self.assert_same(device.read(count - start), [(0, start, count)])
        else:
            self.assertIsNone(getattr(device, kind)())

    def test_39_drawn_histories_against_played(self):
        chance = random.Random(39)
        for turn in range(250):
            rule = drawn_rule(chance, 1 + turn % 3)
            work, many = work_of(6), chance.randint(1, 3)
            setting = [edition_of(work, sorted(chance.sample(range(6), chance.randint(0, 6)))) for _ in range(many)]
            history = drawn_history(chance, [rule], setting, 20)
            shelf = Shelf(rule)
            devices = [shelf.device([edition]) for edition in setting]
            for deed, (places, marks) in zip(history, played(rule, setting, history)):
                self.do(devices, deed)
                self.assert_same(tuple(device.place.cut for device in devices), places)
                self.assert_same((*[device.marks()[0] for device in devices], shelf[work]), marks)
                self.assert_same(tuple(cuts(device)[0] for device in devices), places)
            given = any(deed[0] == "give" for deed in history)
            self.assertEqual(shelf.works(), [work] if given else [])


class TestJumping(LeafCase):
    def test_41_to_places_of_the_own_and_of_other_editions(self):
        work = work_of(6)
        own = edition_of(work, [1, 4])
        for edition in (own, work.whole(), edition_of(work_of(6), [0, 2, 5]), Edition(work, [])):
            for count in range(len(edition) + 1):
                for jump in ("no", "last", "raise", "lower"):
                    device = Shelf(rule_with(jump=jump)).device([own])
                    device.read(1)
                    self.assertIsNone(device.jump(Place(edition, count)))
                    q = plain_kernel([1, 4], Place(edition, count).cut)
                    self.assert_same(device.place.cut, q)
                    self.assert_equal_things(device.place.edition, own)
                    self.assert_same(device.marks(), [({"no": 2, "last": q, "raise": max(2, q), "lower": min(2, q)}[jump],)])

    def test_41_to_another_part(self):
        editions = volume_of(3, 4, 2)
        device = Shelf(Rule.latest()).device(editions)
        for part, count in ((1, 3), (2, 0), (0, 2), (1, 1), (1, 1)):
            before = counts(device)
            self.assertIsNone(device.jump(place=Place(editions[part], count)))
            before[part] = count
            self.assert_same((device.part, device.place.count, counts(device)), (part, count, before))
            self.assertEqual(device.shown, editions[part])
            self.assert_same(device.marks(), [(place.cut,) for place in device.places()])

    def test_41_to_another_edition_of_another_part(self):
        editions = [work_of(3, "a").whole(), edition_of(work_of(5, "b"), [0, 3])]
        device = Shelf(Rule.latest()).device(editions)
        device.jump(Place(work_of(5, "b").whole(), 3))
        self.assert_same((device.part, device.place.count, device.place.cut, device.marks()), (1, 1, 1, [(0,), (1,)]))
        self.assertEqual(device.shown, editions[1])

    def test_41_a_jump_to_the_very_place_is_a_deed(self):
        work = work_of(3)
        shelf = Shelf(rule_with("stay", give="later", take="later"))
        device = shelf.device([work.whole()])
        device.read(2)
        shelf[work] = [1]
        device.jump(device.place)
        device.give()
        self.assert_same(shelf[work], (2,))

    def test_41_any_other_thing(self):
        editions = volume_of(3, 2)
        foreign = work_of(3, "z")
        for thing in anything() + [
            Place(foreign.whole(), 1),
            Place(work_of(4, "a").whole(), 1),
            Place(Work("a", ["b"]).whole(), 0),
            foreign,
            editions[0].work,
            editions[0],
            editions[1],
            foreign.whole(),
            Walk(foreign, []),
            [Place(editions[0], 1)],
            Place,
        ]:
            device = Shelf(Rule.latest()).device(editions)
            device.read(4)
            before = seen_of(device)
            self.assert_refused("BadJump", (thing,), device.jump, thing)
            self.assert_refused("BadJump", (thing,), device.jump, place=thing)
            self.assert_same(seen_of(device), before)


class TestShowing(LeafCase):
    def test_42_another_edition_and_the_same_one(self):
        work = work_of(6)
        editions = [work.whole(), edition_of(work, [0, 2, 5]), edition_of(work_of(6), [1, 4]), Edition(work, [])]
        for one in editions:
            for count in range(len(one) + 1):
                for other in editions:
                    device = Shelf(Rule.latest()).device([one])
                    device.jump(Place(one, count))
                    mark = device.marks()
                    self.assertIsNone(device.show(other))
                    wanted = Place(one, count).seen(other)
                    self.assertEqual(device.shown, other)
                    self.assertEqual(device.place.edition, other)
                    self.assert_same((device.place.count, device.place.cut), (wanted.count, wanted.cut))
                    self.assert_same((counts(device), device.marks()), ([wanted.count], mark))
                    self.assertEqual([place.edition for place in device.places()], [other])

    def test_42_it_is_no_deed(self):
        work = work_of(4)
        shelf = Shelf(rule_with("stay", give="later", take="later"))
        device = shelf.device([work.whole()])
        device.read(3)
        shelf[work] = [1]
        device.show(edition=edition_of(work, [0, 1]))
        self.assert_same((device.place.cut, device.marks()), (2, [(3,)]))
        device.give()
        self.assert_same(shelf[work], (1,))
        device.take()
        self.assert_same(device.marks(), [(1,)])

    def test_42_the_other_edition_is_read_and_taken_in(self):
        work = work_of(6)
        shelf = Shelf(rule_with("field", kept="floored"))
        device = shelf.device([work.whole()])
        device.read(4)
        device.show(edition_of(work, [0, 2, 5]))
        self.assert_same(device.read(1), [(0, 2, 3)])
        self.assert_same((device.place.cut, device.marks()), (6, [(6,)]))
        shelf[work] = [5]
        device.take()
        self.assert_same((device.place.cut, device.marks()), (3, [(3,)]))

    def test_42_the_part_that_is_shown(self):
        editions = volume_of(3, 4)
        device = Shelf(Rule.latest()).device(editions)
        device.jump(Place(editions[1], 3))
        few = edition_of(editions[1].work, [0, 3])
        device.show(few)
        self.assert_same((device.part, counts(device)), (1, [0, 1]))
        self.assertEqual([place.edition for place in device.places()], [editions[0], few])
        self.assert_refused("BadJump", (editions[0],), device.show, editions[0])

    def test_23_a_value_that_stayed_is_floored_too(self):
        # The mark stays at 5, where the other edition does not stand, until something is taken.
        work = work_of(6)
        for take, told in (("no", 4), ("raise", 4), ("later", 4), ("last", 0)):
            for way, place in (("stay", 4), ("field", told), ("greater", 4)):
                shelf = Shelf(rule_with(way, take=take, kept="floored"))
                device = shelf.device([work.whole()])
                device.read(5)
                device.show(edition_of(work, [1, 3]))
                self.assert_same(device.marks(), [(5,)])
                device.take()
                self.assert_same((device.marks(), device.place.cut), ([(told,)], place))
        shelf = Shelf(rule_with("field", take="no", kept="exact"))
        device = shelf.device([work.whole()])
        device.read(5)
        device.show(edition_of(work, [1, 3]))
        device.take()
        self.assert_same((device.marks(), device.place.cut), ([(5,)], 4))

    def test_42_any_other_thing(self):
        editions = volume_of(3, 2)
        foreign = work_of(3, "z")
        for thing in anything() + [
            foreign.whole(),
            editions[1],
            work_of(4, "a").whole(),
            Work("a", ["b"]).whole(),
            editions[0].work,
            foreign,
            Place(editions[0], 1),
            [editions[0]],
            Edition,
        ]:
            device = Shelf(Rule.latest()).device(editions)
            device.read(2)
            before = seen_of(device)
            self.assert_refused("BadJump", (thing,), device.show, thing)
            self.assert_refused("BadJump", (thing,), device.show, edition=thing)
            self.assert_same(seen_of(device), before)


class TestReading(LeafCase):
    def plain_read(self, lengths, part, places, passages):
        """The pieces, the part and the places behind reading, as point 43 tells them."""
        pieces, places = [], list(places)
        while True:
            step = min(passages, lengths[part] - places[part])
            if step:
                pieces.append((part, places[part], places[part] + step))
                places[part] += step
                passages -= step
            if not passages or part + 1 == len(lengths):
                return pieces, part, places
            part += 1
            places[part] = 0

    def test_43_every_volume_from_every_place(self):
        for lengths in ((3,), (0,), (2, 3), (2, 0, 1), (0, 0, 2), (1, 0, 0), (0,) * 3, (1, 2, 3, 1)):
            editions = volume_of(*lengths)
            for part in range(len(lengths)):
                for count in range(lengths[part] + 1):
                    for passages in list(range(1, sum(lengths) + 3)) + [HUGE]:
                        device = Shelf(Rule.latest()).device(editions)
                        device.jump(Place(editions[part], count))
                        before = counts(device)
                        told, shown, places = self.plain_read(lengths, part, before, passages)
                        self.assert_same(device.read(passages), told)
                        self.assert_same((device.part, counts(device)), (shown, places))

    def test_43_by_name_and_each_list_is_a_new_one(self):
        device = Shelf(Rule.latest()).device(volume_of(5))
        pieces = device.read(passages=2)
        self.assert_same(pieces, [(0, 0, 2)])
        pieces.clear()
        self.assert_same(device.read(1), [(0, 2, 3)])

    def test_43_passages_of_the_editions_are_counted(self):
        editions = [edition_of(work_of(9, "a"), [1, 4, 8]), edition_of(work_of(5, "b"), [0, 3, 4])]
        device = Shelf(Rule.latest()).device(editions)
        self.assert_same(device.read(2), [(0, 0, 2)])
        self.assert_same((cuts(device), device.marks()), ([5, 0], [(5,), (0,)]))
        self.assert_same(device.read(3), [(0, 2, 3), (1, 0, 2)])
        self.assert_same((cuts(device), device.marks()), ([9, 4], [(9,), (4,)]))

    def test_43_behind_the_last_part_nothing_is_read(self):
        device = Shelf(Rule.latest()).device(volume_of(2, 1))
        self.assert_same(device.read(4), [(0, 0, 2), (1, 0, 1)])
        for _ in range(2):
            self.assert_same(device.read(1), [])
            self.assert_same((device.part, counts(device), device.marks()), (1, [2, 1], [(2,), (1,)]))

    def test_43_a_part_that_was_read_is_begun_at_its_beginning(self):
        editions = volume_of(2, 3)
        device = Shelf(Rule.latest()).device(editions)
        device.jump(Place(editions[1], 2))
        device.jump(Place(editions[0], 1))
        self.assert_same(device.read(1), [(0, 1, 2)])
        self.assert_same((device.part, counts(device)), (0, [2, 2]))
        self.assert_same(device.read(1), [(1, 0, 1)])
        self.assert_same((device.part, counts(device), device.marks()), (1, [2, 1], [(2,), (1,)]))

    def test_43_it_jumps_to_the_beginnings(self):
        # What a jump lowers is lowered, where the device is at the beginning already, too.
        rule = rule_with("stay", read="no", jump="lower", anew="no")
        editions = volume_of(1, 0, 2)
        shelf = Shelf(rule)
        for edition in editions:
            shelf[edition.work] = [1]
        device = shelf.device(editions)
        device.take()
        self.assert_same(device.marks(), [(1,), (1,), (1,)])
        self.assert_same(device.read(2), [(0, 0, 1), (2, 0, 1)])
        self.assert_same(device.marks(), [(1,), (0,), (0,)])

    def test_43_it_does_not_jump_before_something_is_left(self):
        editions = volume_of(2, 2)
        rule = rule_with("stay", read="no", jump="lower", anew="no")
        shelf = Shelf(rule)
        shelf[editions[1].work] = [2]
        device = shelf.device(editions)
        device.take()
        device.read(2)
        self.assert_same((device.part, device.marks()), (0, [(0,), (2,)]))

    def test_43_each_jump_makes_its_part_later(self):
        editions = volume_of(1, 0, 2)
        shelf = Shelf(rule_with("stay", give="later", take="later"))
        device = shelf.device(editions)
        for edition in editions:
            shelf[edition.work] = [1]
        device.read(1)
        device.give()
        self.assert_same([shelf[edition.work] for edition in editions], [(1,), (1,), (1,)])
        device.read(1)
        device.give()
        self.assert_same([shelf[edition.work] for edition in editions], [(1,), (0,), (1,)])
        shelf[editions[2].work] = [2]
        device.give()
        self.assert_same(shelf[editions[2].work], (2,))

    def test_43_a_piece_is_one_read_deed(self):
        for read, told in (("no", 0), ("last", 4), ("raise", 4), ("row", 4)):
            device = Shelf(rule_with(read=read, jump="no")).device(volume_of(5))
            device.read(4)
            self.assert_same(device.marks(), [(told,)])
        # The row stays behind a gap, however many passages are read at once.
        device = Shelf(rule_with(read="row", jump="no")).device(volume_of(9))
        device.jump(Place(volume_of(9)[0], 2))
        device.read(5)
        self.assert_same(device.marks(), [(0,)])

    def test_43_any_other_object(self):
        for thing in anything() + [work_of(2), Place(work_of(2).whole(), 1)]:
            if isinstance(thing, bool) or not isinstance(thing, int) or thing < 1:
                device = Shelf(Rule.latest()).device(volume_of(3, 2))
                device.read(4)
                before = seen_of(device)
                self.assert_refused("BadCount", (thing,), device.read, thing)
                self.assert_refused("BadCount", (thing,), device.read, passages=thing)
                self.assert_same(seen_of(device), before)
        for thing in (0, -1, True):
            self.assert_refused("BadCount", (thing,), Shelf(Rule.latest()).device(volume_of(0)).read, thing)


class TestExchange(LeafCase):
    def test_44_anew_is_of_the_part_that_is_shown(self):
        editions = volume_of(3, 4)
        for anew, told in (("no", 2), ("least", 0)):
            device = Shelf(rule_with(anew=anew)).device(editions)
            device.read(5)
            self.assertIsNone(device.anew())
            self.assert_same((device.part, counts(device), device.marks()), (1, [3, 0], [(3,), (told,)]))
            self.assert_same(device.read(1), [(1, 0, 1)])

    def test_44_anew_makes_later(self):
        editions = volume_of(3, 4)
        shelf = Shelf(rule_with("stay", give="later"))
        device = shelf.device(editions)
        for edition in editions:
            shelf[edition.work] = [1]
        device.anew()
        device.give()
        self.assert_same([shelf[edition.work] for edition in editions], [(0,), (1,)])

    def test_44_all_parts_are_given_and_taken(self):
        editions = volume_of(3, 4, 2)
        shelf = Shelf(Rule.latest())
        one, other = shelf.device(editions), shelf.device([editions[2], editions[0]])
        one.read(9)
        one.jump(Place(editions[1], 2))
        self.assertIsNone(one.give())
        self.assert_same(one.part, 1)
        self.assert_same([shelf[edition.work] for edition in editions], [(3,), (2,), (2,)])
        self.assertEqual(shelf.works(), [edition.work for edition in editions])
        self.assertIsNone(other.take())
        self.assert_same((other.part, counts(other), other.marks()), (0, [2, 3], [(2,), (3,)]))

    def test_44_works_are_given_part_by_part(self):
        editions = volume_of(1, 0, 2, 3)
        shelf = Shelf(Rule.latest())
        shelf.device(editions[::-1]).give()
        self.assertEqual(shelf.works(), [edition.work for edition in editions[::-1]])

    def test_44_each_part_shows_what_the_rule_tells(self):
        one, two = work_of(6, "a"), work_of(6, "b")
        for way in WAYS:
            for kept in ("exact", "floored"):
                shelf = Shelf(rule_with(way, kept=kept, take="last"))
                device = shelf.device([edition_of(one, [0, 3]), edition_of(two, [1])])
                device.read(1)
                shelf[one], shelf[two] = [5], [1]
                device.take()
                marks = {"exact": [(5,), (1,)], "floored": [(4,), (0,)]}[kept]
                places = {"stay": [1, 0], "field": [4, 0], "greater": [4, 0]}[way]
                self.assert_same((device.marks(), cuts(device), device.part), (marks, places, 0))

    def test_44_stamps_are_of_each_part_alone(self):
        editions = volume_of(3, 3)
        shelf = Shelf(rule_with("stay", give="later", take="later"))
        one, other = shelf.device(editions), shelf.device(editions)
        one.read(4)
        other.jump(Place(editions[0], 2))
        one.give()
        other.give()
        self.assert_same([shelf[edition.work] for edition in editions], [(2,), (1,)])
        other.take()
        self.assert_same(other.marks(), [(2,), (1,)])
        one.take()
        self.assert_same(one.marks(), [(2,), (1,)])

    def test_44_deeds_one_behind_another_at_all_devices(self):
        work = work_of(9)
        shelf = Shelf(rule_with("stay", give="later", take="later"))
        devices = [shelf.device([work.whole()]) for _ in range(4)]
        for device in devices:
            device.read(1 + devices.index(device))
        for device in devices[::-1]:
            device.give()
        self.assert_same(shelf[work], (4,))
        devices[0].jump(Place(work.whole(), 7))
        for device in devices:
            device.give()
            device.take()
        self.assert_same([device.marks() for device in devices], [[(7,)]] * 4)


class Trouble(Exception):
    pass


class TestAway(LeafCase):
    def setUp(self):
        self.work = work_of(5)
        self.shelf = Shelf(Rule.latest())
        self.device = self.shelf.device([self.work.whole()])

    def assert_away(self):
        self.assert_true(self.device.is_away())
        self.assert_refused("Away", (), self.device.give)
        self.assert_refused("Away", (), self.device.take)
        self.assert_true(self.device.is_away())

    def assert_there(self):
        self.assert_false(self.device.is_away())
        self.device.give()
        self.device.take()
        self.assert_false(self.device.is_away())

    def test_45_once(self):
        self.assert_there()
        self.assertIsNone(self.device.away(self.assert_away))
        self.assert_there()

    def test_45_things_are_passed_and_what_is_returned_is_returned(self):
        told = []

        def work(*things):
            told.append(things)
            return [things]

        for things in ((), (1,), (None, "a"), ([1], (2,), {"a": 3})):
            self.assert_same(self.device.away(work, *things), [things])
            self.assert_same(told[-1], things)
        thing = object()
        self.assertIs(self.device.away(lambda x: x, thing), thing)
        self.assert_same(len(told), 4)
        self.assert_same(self.device.away(work=lambda: 7), 7)
        self.assert_same(self.device.away(self.device.read, 2), [(0, 0, 2)])

    def test_45_all_else_can_be_done(self):
        few = edition_of(self.work, [0, 3])

        def work():
            self.assert_same(self.device.read(3), [(0, 0, 3)])
            self.device.show(few)
            self.device.jump(Place(self.work.whole(), 4))
            self.assert_same((self.device.part, self.device.place.cut, self.device.marks()), (0, 4, [(4,)]))
            self.device.anew()
            self.device.read(1)
            self.shelf[self.work] = [5]
            self.shelf.device([self.work.whole()]).give()
            self.assert_away()
            return "done"

        self.assert_same(self.device.away(work), "done")
        self.assert_same((counts(self.device), self.device.marks()), ([1], [(1,)]))
        self.assertEqual(self.device.shown, few)

    def test_45_away_within_an_away(self):
        def inner(many):
            self.assert_away()
            told = self.device.away(inner, many - 1) if many else "deepest"
            # Back from the inner one the device is still away.
            self.assert_away()
            return told

        self.assert_same(self.device.away(inner, 3), "deepest")
        self.assert_there()

    def test_45_ended_by_an_error(self):
        def work(kind):
            self.device.read(2)
            raise kind("x")

        for number, kind in enumerate((Trouble, ValueError, KeyError, KeyboardInterrupt, SystemExit)):
            with self.assertRaises(kind):
                self.device.away(work, kind)
            self.assert_same(self.device.place.count, 2)
            self.assert_there()
            self.device.anew()

    def test_45_an_inner_one_ended_by_an_error(self):
        def outer():
            with self.assertRaises(Trouble):
                self.device.away(self.trouble)
            self.assert_away()
            return 1

        self.assert_same(self.device.away(outer), 1)
        self.assert_there()
        with self.assertRaises(Trouble):
            self.device.away(self.device.away, self.trouble)
        self.assert_there()

    def trouble(self):
        raise Trouble()

    def test_45_give_and_take_within_it_end_it(self):
        for deed in (self.device.give, self.device.take):
            self.device.anew()
            self.device.read(3)
            self.shelf[self.work] = [1]
            self.assert_refused("Away", (), self.device.away, deed)
            self.assert_same((self.device.marks(), self.device.place.count, self.shelf[self.work]), ([(3,)], 3, (1,)))
            self.assert_false(self.device.is_away())

    def test_45_refused_while_away_nothing_comes_to_the_shelf(self):
        self.assert_refused("Away", (), self.device.away, self.device.give)
        self.assertEqual(self.shelf.works(), [])

    def test_45_other_devices_are_not_away(self):
        other = self.shelf.device([self.work.whole()])

        def work():
            self.assert_false(other.is_away())
            other.read(4)
            other.give()
            other.away(lambda: self.assert_refused("Away", (), other.take))
            self.assert_away()

        self.device.away(work)
        self.device.take()
        self.assert_same(self.device.place.count, 4)


class TestVolumes(LeafCase):
    def test_46_a_volume_against_devices_of_each_part_alone(self):
        chance = random.Random(46)
        for turn in range(80):
            rule = drawn_rule(chance, 1 + turn % 2)
            works = [work_of(chance.randint(1, 5), name) for name in "abc"]
            editions = [edition_of(work, sorted(chance.sample(range(len(work)), chance.randint(0, len(work))))) for work in works]
            shelf, apart = Shelf(rule), Shelf(rule)
            volumes = [shelf.device(editions), shelf.device(editions[::-1])]
            alone = [[apart.device([edition]) for edition in editions], [apart.device([one]) for one in editions[::-1]]]
            for _ in range(25):
                number = chance.randrange(2)
                self.do(chance, volumes[number], alone[number])
                for volume, singles in zip(volumes, alone):
                    self.assert_same(volume.marks(), [single.marks()[0] for single in singles])
                    self.assert_same(cuts(volume), [single.place.cut for single in singles])
                self.assert_same([shelf[work] for work in works], [apart[work] for work in works])
            self.assertEqual(shelf.works(), apart.works())

    def do(self, chance, volume, singles):
        """Do one thing at the volume, and the deeds of each part at a device of this part alone."""
        kind = chance.choice(["jump", "read", "anew", "give", "take", "show", "put"])
        part = volume.part
        if kind == "jump":
            part = chance.randrange(len(singles))
            whole = singles[part].shown.work.whole()
            place = Place(whole, chance.randint(0, len(whole)))
            volume.jump(place)
            singles[part].jump(place)
        elif kind == "read":
            for at, start, end in self.pieces_of(volume, chance.randint(1, 8), singles):
                self.assert_same(singles[at].read(end - start), [(0, start, end)])
        elif kind == "show":
            work = volume.shown.work
            other = edition_of(work, sorted(chance.sample(range(len(work)), chance.randint(0, len(work)))))
            volume.show(other)
            singles[part].show(other)
        elif kind == "put":
            work = volume.shown.work
            values = [chance.randint(0, len(work)) for _ in volume.shelf.rule.fields()]
            volume.shelf[work] = values
            singles[part].shelf[work] = values
        elif kind == "anew":
            volume.anew()
            singles[part].anew()
        else:
            getattr(volume, kind)()
            for single in singles:
                getattr(single, kind)()

    def pieces_of(self, volume, passages, singles):
        """Read, and let the devices of the parts that are entered jump to their beginnings."""
        part = volume.part
        pieces = volume.read(passages)
        for at in range(part + 1, volume.part + 1):
            singles[at].jump(Place(singles[at].shown, 0))
        return pieces

    def test_46_a_volume_read_through(self):
        for lengths in ((3, 1, 4), (0, 2, 0, 3), (5,), (0,), (0, 0), (2, 0), (1, 1, 1, 1, 1)):
            for beyond in (0, 1, HUGE):
                if sum(lengths) + beyond == 0:
                    continue
                device = Shelf(Rule.furthest()).device(volume_of(*lengths))
                told = [(part, 0, length) for part, length in enumerate(lengths) if length]
                self.assert_same(device.read(sum(lengths) + beyond), told)

    def test_46_read_piece_by_piece(self):
        lengths = (3, 0, 4)
        device = Shelf(Rule.furthest()).device(volume_of(*lengths))
        pieces = []
        while piece := device.read(1):
            pieces.extend(piece)
        self.assert_same(pieces, [(0, k, k + 1) for k in range(3)] + [(2, k, k + 1) for k in range(4)])
        self.assert_same(device.marks(), [(3,), (0,), (4,)])


if __name__ == "__main__":
    unittest.main()
