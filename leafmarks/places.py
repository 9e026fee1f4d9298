"""Places in editions: they are compared across the editions of a work by their cuts."""

from leafmarks.basics import is_number
from leafmarks.errors import BadSize
from leafmarks.works import require_count, require_one_work


class Place:
    """A place in an edition, behind its first count passages."""

    def __init__(self, edition, count):
        require_count(count, edition)
        self.edition = edition
        self.count = count

    @property
    def cut(self):
        """The cut of the work at which the place stands."""
        return self.edition.cut_behind(self.count)

    def seen(self, edition):
        """Return the place in another edition of the work."""
        require_one_work(self.edition, edition)
        return Place(edition, edition.count_at(self.cut))

    def moved(self, steps):
        """Return the place so many passages on, or back, but not beyond the ends of the edition."""
        count = self.count + steps
        return Place(self.edition, max(0, min(len(self.edition), count)))

    def __add__(self, other):
        if not is_number(other):
            return NotImplemented
        return self.moved(other)

    def __radd__(self, other):
        return self + other

    def __sub__(self, other):
        if isinstance(other, Place):
            require_one_work(self.edition, other.edition)
            return self.cut - other.cut
        if not is_number(other):
            return NotImplemented
        return self.moved(-other)

    def __floordiv__(self, other):
        if not is_number(other):
            return NotImplemented
        require_size(other)
        return self.count // other

    def __mod__(self, other):
        if not is_number(other):
            return NotImplemented
        require_size(other)
        return self.count % other

    def __lt__(self, other):
        require_one_work(self.edition, other.edition)
        return self.cut < other.cut

    def __le__(self, other):
        require_one_work(self.edition, other.edition)
        return self.cut <= other.cut

    def __gt__(self, other):
        require_one_work(self.edition, other.edition)
        return self.cut > other.cut

    def __ge__(self, other):
        require_one_work(self.edition, other.edition)
        return self.cut >= other.cut

    def __eq__(self, other):
        return isinstance(other, Place) and self.edition.work == other.edition.work and self.cut == other.cut


def require_size(size):
    """Refuse a number of passages that no page can have."""
    if size < 1:
        raise BadSize(size)
