"""The errors of leafmarks. Each keeps the very objects that it was created with."""


class LeafError(ValueError):
    """Anything that leafmarks refuses."""


class BadWord(LeafError):
    """An object that is no word."""

    def __init__(self, word):
        self.word = word


class BadPassage(LeafError):
    """A passage, by its index, that cannot stand where it stands."""

    def __init__(self, index):
        self.index = index


class OtherWork(LeafError):
    """Two things that are not of equal works."""


class BadCount(LeafError):
    """An object that is no number of passages, or of turns."""

    def __init__(self, count):
        self.count = count


class BadCut(LeafError):
    """An object that is no cut of the work."""

    def __init__(self, number):
        self.number = number


class BadSize(LeafError):
    """A number of passages that no page can have."""

    def __init__(self, size):
        self.size = size


class BadEdition(LeafError):
    """A thing, by its index, that is no edition, or none that can stand there."""

    def __init__(self, index):
        self.index = index


class BadRule(LeafError):
    """A field, by its index, or what is shown (None), and what is wrong with it."""

    def __init__(self, index, reason):
        self.index = index
        self.reason = reason


class BadText(LeafError):
    """A line of a text, by its number from 1 on, that cannot stand there."""

    def __init__(self, line):
        self.line = line


class BadSetting(LeafError):
    """An object that tells of no devices."""


class BadDeed(LeafError):
    """A thing in a history, by its index, that is no deed that can be done then."""

    def __init__(self, index):
        self.index = index


class BadFault(LeafError):
    """An object that is no fault's word."""

    def __init__(self, fault):
        self.fault = fault


class BadKinds(LeafError):
    """An object that is no list of kinds of deeds."""

    def __init__(self, kinds):
        self.kinds = kinds


class TooMany(LeafError):
    """More states can be come to than were allowed."""

    def __init__(self, most):
        self.most = most


class BadMark(LeafError):
    """An object that is no list of a mark's values."""

    def __init__(self, mark):
        self.mark = mark


class BadJump(LeafError):
    """A thing that the device cannot jump to, or show."""

    def __init__(self, thing):
        self.thing = thing


class Away(LeafError):
    """The device is away from its shelf."""
