"""Works, and their editions: some of a work's passages, in the work's order."""

from leafmarks.basics import is_row, is_up_to, is_word
from leafmarks.errors import BadCount, BadCut, BadPassage, BadWord, OtherWork


class Work:
    """A work: a name, and its passages in their order."""

    def __init__(self, name, passages):
        if not is_word(name):
            raise BadWord(name)
        # A list without passages is refused as if its first one were wrong.
        if not is_row(passages) or len(passages) == 0:
            raise BadPassage(0)
        ends = {}
        for index, word in enumerate(passages):
            if not is_word(word) or word in ends:
                raise BadPassage(index)
            ends[word] = index + 1
        self.name = name
        self.words = tuple(passages)
        self.ends = ends

    def passages(self):
        """Return the list of the passages."""
        return list(self.words)

    def whole(self):
        """Return the edition of all passages."""
        return Edition(self, self.words)

    def end_of(self, word):
        """Return the cut right behind a passage, 0 for any object that is none."""
        return self.ends[word] if word in self else 0

    def __len__(self):
        return len(self.words)

    def __contains__(self, x):
        # Any object may be asked for, also one that cannot be a key.
        return isinstance(x, str) and x in self.ends

    def __eq__(self, other):
        return isinstance(other, Work) and self.name == other.name and self.words == other.words


class Edition:
    """An edition of a work: some of its passages, perhaps none."""

    def __init__(self, work, passages):
        cuts = cuts_behind(work, passages)
        self.work = work
        self.words = tuple(passages)
        self.cuts = tuple(cuts)
        self.counts = tuple(counts_at(cuts, len(work)))

    def passages(self):
        """Return the list of the passages."""
        return list(self.words)

    def cut_behind(self, count):
        """Return the cut behind the first count passages."""
        require_count(count, self)
        return self.cuts[count]

    def count_at(self, cut):
        """Return how many passages stand ahead of a cut of the work."""
        require_cut(cut, self.work)
        return self.counts[cut]

    def kernel(self, cut):
        """Return the cut behind the last passage that stands ahead of a cut."""
        return self.cut_behind(self.count_at(cut))

    def kernels(self):
        """Return the list of the kernels of all cuts of the work, ascending."""
        return [self.cuts[count] for count in self.counts]

    def __len__(self):
        return len(self.words)

    def __contains__(self, x):
        return isinstance(x, str) and x in self.words

    def __and__(self, other):
        require_one_work(self, other)
        return Edition(self.work, [word for word in self.words if word in other.words])

    def __or__(self, other):
        require_one_work(self, other)
        # The work's order is kept, whichever edition has the passage.
        either = [word for word in self.work.words if word in self.words or word in other.words]
        return Edition(self.work, either)

    def __sub__(self, other):
        require_one_work(self, other)
        return Edition(self.work, [word for word in self.words if word not in other.words])

    def __le__(self, other):
        require_one_work(self, other)
        return all([word in other.words for word in self.words])

    def __lt__(self, other):
        return self <= other and len(self.words) < len(other.words)

    def __eq__(self, other):
        return isinstance(other, Edition) and self.work == other.work and self.words == other.words


def cuts_behind(work, passages):
    """Return the cuts behind the passages of an edition, with 0 ahead of them."""
    if not is_row(passages):
        raise BadPassage(0)
    cuts = [0]
    for index, word in enumerate(passages):
        # What is no passage of the work ends at 0, so it never stands behind another.
        cut = work.end_of(word)
        if cut <= cuts[-1]:
            raise BadPassage(index)
        cuts.append(cut)
    return cuts


def counts_at(cuts, length):
    """Return how many passages, behind which the cuts stand, are ahead of each cut up to length."""
    counts = [0]
    for cut in range(1, length + 1):
        counts.append(counts[-1] + int(cut in cuts))
    return counts


def require_count(count, edition):
    """Refuse any object that is no number of passages of an edition."""
    if not is_up_to(count, len(edition)):
        raise BadCount(count)


def require_cut(cut, work):
    """Refuse any object that is no cut of a work."""
    if not is_up_to(cut, len(work)):
        raise BadCut(cut)


def require_one_work(one, other):
    """Refuse two things, editions or walks, whose works are not equal."""
    if one.work != other.work:
        raise OtherWork()
