"""Walks: what is left of a cut behind a row of editions, and which editions cross."""

from leafmarks.basics import first_unlike, is_number, is_row, least_choice, picked
from leafmarks.errors import BadCount, BadEdition
from leafmarks.works import Edition, require_cut, require_one_work


class Walk:
    """A row of editions of a work, perhaps empty, each taking the kernel of what the one ahead told."""

    def __init__(self, work, editions):
        if not is_row(editions):
            raise BadEdition(0)
        for index, edition in enumerate(editions):
            if not is_edition_of(edition, work):
                raise BadEdition(index)
        self.work = work
        self.steps = tuple(editions)

    def editions(self):
        """Return the list of the editions."""
        return list(self.steps)

    def table(self):
        """Return the list of what the walk tells of all cuts, ascending."""
        return told_behind(self.steps, list(range(len(self.work) + 1)))

    def turned(self, turns):
        """Return the walk of so many turns of this one."""
        if not is_number(turns) or turns < 0:
            raise BadCount(turns)
        return Walk(self.work, self.steps * turns)

    def parted(self, other):
        """Return the least cut of which the walks tell unlike cuts, or None."""
        require_one_work(self, other)
        return first_unlike(self.table(), other.table())

    def shortest(self):
        """Return the numbers of as few editions as can be kept for the walk to stay equal."""
        wanted = self.table()
        cuts = list(range(len(wanted)))

        def tells_the_same(kept):
            return told_behind(picked(self.steps, kept), cuts) == wanted

        return least_choice(len(self.steps), tells_the_same)

    def rest(self, cut):
        """Return the cut that rests and that the turns of the walk lead to."""
        require_cut(cut, self.work)
        return way_to_rest(self.table(), cut)[-1]

    def turns(self, cut):
        """Return how many turns it takes until a cut rests."""
        require_cut(cut, self.work)
        return len(way_to_rest(self.table(), cut)) - 1

    def longest(self):
        """Return the most turns that a cut takes, and the least cut that takes so many."""
        table = self.table()
        most, least = 0, 0
        for cut in range(len(table)):
            taken = len(way_to_rest(table, cut)) - 1
            if taken > most:
                most, least = taken, cut
        return most, least

    def __call__(self, cut):
        require_cut(cut, self.work)
        return told_behind(self.steps, [cut])[0]

    def __len__(self):
        return len(self.steps)

    def __rshift__(self, other):
        require_one_work(self, other)
        return Walk(self.work, self.steps + other.steps)

    def __pow__(self, other):
        return self.turned(other)

    def __le__(self, other):
        require_one_work(self, other)
        return all([here <= there for here, there in zip(self.table(), other.table())])

    def __lt__(self, other):
        return self <= other and self != other

    def __eq__(self, other):
        return isinstance(other, Walk) and self.work == other.work and self.table() == other.table()


def is_edition_of(thing, work):
    """Tell whether any object is an edition of an equal work."""
    return isinstance(thing, Edition) and thing.work == work


def told_behind(steps, cuts):
    """Return what is left of each of the cuts behind a row of editions."""
    for edition in steps:
        kernels = edition.kernels()
        cuts = [kernels[cut] for cut in cuts]
    return cuts


def way_to_rest(table, cut):
    """Return the list of the cuts that turns lead through, from a cut to the one that rests."""
    way = [cut]
    # No kernel is greater than its cut, so the way falls until it rests.
    while table[way[-1]] != way[-1]:
        way.append(table[way[-1]])
    return way


def crossing(one, other):
    """Return the least cut at which it matters which of two editions is walked first, or None."""
    require_one_work(one, other)
    cuts = list(range(len(one.work) + 1))
    return first_unlike(told_behind([one, other], cuts), told_behind([other, one], cuts))


def mended(editions):
    """Return the fewest passages, pairs (index, number), that keep all editions from crossing."""
    require_editions(editions)
    words = editions[0].work.passages()
    missing = [
        (index, number)
        for index, edition in enumerate(editions)
        for number, word in enumerate(words)
        if word not in edition
    ]

    def mends(chosen):
        return none_cross(filled(editions, words, picked(missing, chosen)))

    return picked(missing, least_choice(len(missing), mends))


def require_editions(editions):
    """Refuse any object that is no list of one or more editions of one work."""
    if not is_row(editions) or len(editions) == 0:
        raise BadEdition(0)
    for index, edition in enumerate(editions):
        if not isinstance(edition, Edition) or edition.work != editions[0].work:
            raise BadEdition(index)


def filled(editions, words, pairs):
    """Return the editions with the passages of the pairs put into them."""
    wholes = []
    for index, edition in enumerate(editions):
        added = [words[number] for at, number in pairs if at == index]
        wholes.append(edition | Edition(edition.work, added))
    return wholes


def none_cross(editions):
    """Tell whether no two of the editions cross."""
    for index, one in enumerate(editions):
        for other in editions[:index]:
            if crossing(one, other) is not None:
                return False
    return True
