"""What each deed does to the values of marks, and to the place that a device shows."""

KINDS = ("read", "jump", "anew", "give", "take")
LEADING = ("read", "jump")


def greater(one, other):
    """Return the greater one of two cuts."""
    return one if one > other else other


def value_read(word, value, here, there):
    """Return a device's value behind reading on from here to there."""
    if word == "last":
        return there
    if word == "raise" or (word == "row" and here <= value):
        return greater(value, there)
    return value


def value_jumped(word, value, there):
    """Return a device's value behind a jump."""
    if word == "last" or (word == "lower" and there < value):
        return there
    if word == "raise":
        return greater(value, there)
    return value


def value_begun(word, value):
    """Return a device's value behind a new beginning."""
    return 0 if word == "least" else value


def value_met(word, value, other, is_later):
    """Return a value of a mark that meets another mark, which may be the later one."""
    if word == "last" or (word == "later" and is_later):
        return other
    if word == "raise":
        return greater(value, other)
    return value


def values_led(kind, words, values, here, there):
    """Return a device's values behind a deed that leads it from here to there."""
    if kind == "read":
        return [value_read(word, value, here, there) for word, value in zip(words, values)]
    if kind == "jump":
        return [value_jumped(word, value, there) for word, value in zip(words, values)]
    return [value_begun(word, value) for word, value in zip(words, values)]


def values_met(words, values, others, is_later):
    """Return the values of a mark that meets another mark: the shelf's at a give, the device's at a take."""
    return [value_met(word, value, other, is_later) for word, value, other in zip(words, values, others)]


def values_kept(words, values, floors):
    """Return what becomes of values that a device has taken, floors being the kernels of its edition."""
    return [floor_of(floors, value) if word == "floored" else value for word, value in zip(words, values)]


def floor_of(floors, cut):
    """Return a cut's kernel; None as floors means that the edition stands at each cut."""
    return cut if floors is None else floors[cut]


def place_shown(way, here, kernel):
    """Return the place that a device shows when it has taken."""
    if way == "stay" or (way == "greater" and here > kernel):
        return here
    return kernel
