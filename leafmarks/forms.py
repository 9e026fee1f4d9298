"""The form of states: whether any object is a list of things that could be states of a question."""

from leafmarks.basics import is_number, is_row, is_up_to


def are_states(things, space):
    """Tell whether any object is a list of things of the form of a space's states."""
    return is_row(things) and all([is_state(thing, space) for thing in things])


def plain_states(things):
    """Return states, whose parts may be lists, with tuples alone."""
    return [(tuple(values), tuple(stamps), tuple(come)) for values, stamps, come in things]


def is_state(thing, space):
    """Tell whether any object has the form of a space's states."""
    if not is_row(thing) or len(thing) != 3 or not all([are_numbers(part) for part in thing]):
        return False
    values, stamps, come = thing
    if len(values) != len(space.beginning()[0]) or not are_stamps(stamps, space) or not is_ascending(come):
        return False
    if space.floors[0] is None:
        return are_ranks(values) and are_ranks_come_to(come, values, space)
    return are_cuts(values, space) and are_cuts_come_to(come, space)


def are_numbers(part):
    """Tell whether any object is a list of integers."""
    return is_row(part) and all([is_number(x) for x in part])


def is_ascending(numbers):
    """Tell whether numbers ascend, no two equal."""
    return list(numbers) == sorted(set(numbers))


def are_stamps(stamps, space):
    """Tell whether numbers are ranks of as many stamps as the space has, without gaps."""
    return len(stamps) == len(space.beginning()[1]) and has_no_gaps(stamps, 0)


def has_no_gaps(numbers, first):
    """Tell whether numbers are, in any order, those from the first one on."""
    met = sorted(set(numbers))
    return met == list(range(first, first + len(met)))


def are_ranks(values):
    """Tell whether values are ranks without gaps, perhaps without 0."""
    return has_no_gaps(values, 0) or has_no_gaps(values, 1)


def are_ranks_come_to(come, values, space):
    """Tell whether ascending numbers can be the ranks that are come to, beside the values."""
    if "nobody" not in space.watched:
        return len(come) == 0
    return all([rank in values for rank in come]) and (0 in come) == (0 in values)


def are_cuts(values, space):
    """Tell whether values are cuts of the work, and the editions stand at the places."""
    if not all([is_up_to(value, len(space.floors[0]) - 1) for value in values]):
        return False
    return all([space.stands(device, values[device * space.width]) for device in range(len(space.floors))])


def are_cuts_come_to(come, space):
    """Tell whether ascending numbers can be the cuts that are come to."""
    if "nobody" not in space.watched:
        return len(come) == 0
    return 0 in come and all([is_up_to(cut, len(space.floors[0]) - 1) for cut in come])
