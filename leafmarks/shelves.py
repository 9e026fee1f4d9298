"""Shelves, which keep a mark for each work, and devices, which hold volumes of editions."""

from leafmarks.basics import is_number, is_row, is_up_to
from leafmarks.deeds import place_shown, values_kept, values_led, values_met
from leafmarks.errors import Away, BadCount, BadEdition, BadJump, BadMark
from leafmarks.places import Place
from leafmarks.works import Edition


class Mark:
    """The values of the fields, as cuts of one work, and a stamp."""

    def __init__(self, cuts, stamp):
        self.cuts = tuple(cuts)
        self.stamp = stamp


class Part:
    """An edition of a volume, the count of the place in it, and its mark."""

    def __init__(self, edition, mark):
        self.edition = edition
        self.count = 0
        self.mark = mark

    def here(self):
        """Return the place."""
        return Place(self.edition, self.count)


class Shelf:
    """A shelf: by its rule it keeps a mark for each work that comes to it."""

    def __init__(self, rule):
        self.rule = rule
        # The work and the mark, by the work's name and passages, for works are no keys.
        self.kept = {}
        self.stamp = 0

    def works(self):
        """Return the list of the works for which a mark was given or put by hand."""
        return [work for work, mark in self.kept.values()]

    def device(self, editions):
        """Return a device of the shelf, with a volume of editions of unequal works."""
        return Device(self, editions)

    def no_mark(self):
        """Return the mark at the beginning."""
        return Mark([0] * len(self.rule.rows), 0)

    def mark_of(self, work):
        """Return the mark of a work."""
        key = (work.name, work.words)
        return self.kept[key][1] if key in self.kept else self.no_mark()

    def put(self, work, mark):
        """Keep a mark for a work, in the place of the one that was kept."""
        self.kept[(work.name, work.words)] = (work, mark)

    def next_stamp(self):
        """Return a stamp that is later than all others."""
        self.stamp += 1
        return self.stamp

    def __getitem__(self, at):
        return self.mark_of(at).cuts

    def __setitem__(self, at, worth):
        require_cuts(worth, at, len(self.rule.rows))
        self.put(at, Mark(worth, self.next_stamp()))

    def __iter__(self):
        raise TypeError("a shelf is asked for one work at a time")


class Device:
    """A device of a shelf: it shows one part of its volume, and has a place and a mark for each."""

    def __init__(self, shelf, editions):
        require_parts(editions)
        self.shelf = shelf
        self.parts = [Part(edition, shelf.no_mark()) for edition in editions]
        self.at = 0
        self.is_out = False

    @property
    def part(self):
        """The number of the part that is shown."""
        return self.at

    @property
    def place(self):
        """The place of the part that is shown."""
        return self.parts[self.at].here()

    @property
    def shown(self):
        """The edition that is shown."""
        return self.parts[self.at].edition

    def places(self):
        """Return the list of the places of all parts."""
        return [part.here() for part in self.parts]

    def marks(self):
        """Return the list of the values of all parts' marks."""
        return [part.mark.cuts for part in self.parts]

    def jump(self, place):
        """Jump to a place of a work of which the volume has an edition, and show this part."""
        at = self.part_with(place)
        if at is None:
            raise BadJump(place)
        self.at = at
        self.lead("jump", place.seen(self.shown).count)

    def show(self, edition):
        """Put another edition of its work in the place of the one that is shown."""
        part = self.parts[self.at]
        if not isinstance(edition, Edition) or edition.work != part.edition.work:
            raise BadJump(edition)
        part.count = part.here().seen(edition).count
        part.edition = edition

    def read(self, passages):
        """Read on through so many passages of the volume, and return the pieces that were read."""
        if not is_number(passages) or passages < 1:
            raise BadCount(passages)
        pieces = []
        left = passages - self.read_here(passages, pieces)
        while left > 0 and self.at + 1 < len(self.parts):
            self.at += 1
            self.lead("jump", 0)
            left = left - self.read_here(left, pieces)
        return pieces

    def anew(self):
        """Begin the work of the part that is shown anew."""
        self.lead("anew", 0)

    def give(self):
        """Give the marks of all parts to the shelf."""
        self.require_shelf()
        for part in self.parts:
            self.give_part(part)

    def take(self):
        """Take the marks of the works of all parts from the shelf, and show the places that the rule tells."""
        self.require_shelf()
        for part in self.parts:
            self.take_part(part)

    def away(self, work, *things):
        """Call the work with the things, away from the shelf, and return what it returns."""
        was_out = self.is_out
        self.is_out = True
        try:
            return work(*things)
        finally:
            self.is_out = was_out

    def is_away(self):
        """Tell whether the device is away from its shelf."""
        return self.is_out

    def part_with(self, place):
        """Return the number of the part to whose work any object is a place, or None."""
        if isinstance(place, Place):
            for at, part in enumerate(self.parts):
                if part.edition.work == place.edition.work:
                    return at
        return None

    def lead(self, kind, count):
        """Do a deed that leads the part that is shown behind so many of its passages."""
        part = self.parts[self.at]
        here, there = part.here().cut, part.edition.cut_behind(count)
        cuts = values_led(kind, self.shelf.rule.words_for(kind), part.mark.cuts, here, there)
        part.mark = Mark(cuts, self.shelf.next_stamp())
        part.count = count

    def read_here(self, passages, pieces):
        """Read on in the part that is shown, to its end at most; put the piece to the others, return its length."""
        start, length = self.place.count, len(self.shown)
        end = start + passages if passages < length - start else length
        if end > start:
            self.lead("read", end)
            pieces.append((self.at, start, end))
        return end - start

    def require_shelf(self):
        """Refuse what cannot be done away from the shelf."""
        if self.is_out:
            raise Away()

    def give_part(self, part):
        """Give the mark of a part to the shelf."""
        rule, work = self.shelf.rule, part.edition.work
        own, other = self.shelf.mark_of(work), part.mark
        cuts = values_met(rule.words_for("give"), own.cuts, other.cuts, other.stamp > own.stamp)
        self.shelf.put(work, Mark(cuts, later_stamp(own, other)))

    def take_part(self, part):
        """Take the mark of a part's work from the shelf, and show the place that the rule tells."""
        rule, edition = self.shelf.rule, part.edition
        own, other = part.mark, self.shelf.mark_of(edition.work)
        cuts = values_met(rule.words_for("take"), own.cuts, other.cuts, other.stamp > own.stamp)
        cuts = values_kept(rule.words_for("kept"), cuts, edition.kernels())
        there = place_shown(rule.way, part.here().cut, edition.kernel(cuts[rule.at]))
        part.mark = Mark(cuts, later_stamp(own, other))
        part.count = edition.count_at(there)


def later_stamp(one, other):
    """Return the later one of two marks' stamps."""
    return max(int(one.stamp), int(other.stamp))


def require_cuts(values, work, many):
    """Refuse any object that is no list of so many cuts of a work."""
    if not is_row(values) or len(values) != many:
        raise BadMark(values)
    if not all([is_up_to(value, len(work)) for value in values]):
        raise BadMark(values)


def require_parts(editions):
    """Refuse any object that is no list of one or more editions of unequal works."""
    if not is_row(editions) or len(editions) == 0:
        raise BadEdition(0)
    for index, edition in enumerate(editions):
        if not isinstance(edition, Edition):
            raise BadEdition(index)
        if edition.work in [ahead.work for ahead in editions[:index]]:
            raise BadEdition(index)
