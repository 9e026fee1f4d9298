"""States of books of any length, whose values are ranks: only their order counts."""

from leafmarks.basics import ranks_of


def spread(state):
    """Return a state of ranks with an odd number between each two of its values, for a place that is new."""
    values, stamps, come = state
    return tuple([2 * value for value in values]), stamps, tuple([2 * cut for cut in come])


def ranked(state):
    """Return a state with its values as ranks, 0 for the beginning."""
    values, stamps, come = state
    ranks = ranks_of([0, *values])
    stands = [ranks[cut] for cut in come if cut in values]
    return tuple([ranks[value] for value in values]), stamps, tuple(stands)


def room_behind(history, place):
    """Return a history with all places beyond one moved on by one, so that a new place fits behind it."""
    return [
        (*deed[:2], *[there + 1 if there > place else there for there in deed[2:]])
        for deed in history
    ]


def with_deed(history, values, deed):
    """Return a history with one more deed, whose place is a number of the spread ranks of the values behind it."""
    if len(deed) == 2:
        return [*history, deed]
    places = sorted(set([0, *values]))
    place = places[deed[2] // 2]
    if deed[2] % 2 == 0:
        return [*history, (*deed[:2], place)]
    return [*room_behind(history, place), (*deed[:2], place + 1)]
