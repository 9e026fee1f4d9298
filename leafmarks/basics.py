"""What several files need: kinds of plain values, lines, ranks, and searches in the order of lists."""

LETTERS = "abcdefghijklmnopqrstuvwxyz"
LONGEST_WORD = 8


def is_number(x):
    """Tell whether any object is an integer; True and False are none."""
    return isinstance(x, int) and not isinstance(x, bool)


def is_up_to(x, most):
    """Tell whether any object is an integer from 0 to most."""
    return is_number(x) and 0 <= x <= most


def is_row(x):
    """Tell whether any object is a list, for which a tuple may stand."""
    return isinstance(x, (list, tuple))


def is_word(x):
    """Tell whether any object is a word."""
    if not isinstance(x, str):
        return False
    return 1 <= len(x) <= LONGEST_WORD and all([sign in LETTERS for sign in x])


def lines_of(text):
    """Return the lines of a text, each with its line feed, if it has one."""
    *lines, rest = text.split("\n")
    whole = [f"{line}\n" for line in lines]
    return whole if rest == "" else [*whole, rest]


def ranks_of(numbers):
    """Return the ranks of numbers, from 0 on, by the numbers."""
    return {number: rank for rank, number in enumerate(sorted(set(numbers)))}


def picked(rows, numbers):
    """Return the list of what stands in a row at the numbers."""
    return [rows[number] for number in numbers]


def first_unlike(one, other):
    """Return the first index at which two lists of one length differ, or None."""
    for index, (here, there) in enumerate(zip(one, other)):
        if here != there:
            return index
    return None


def next_choice(chosen, many):
    """Return what follows an ascending list of numbers below many, among those of its length, or None."""
    size = len(chosen)
    at = size - 1
    while at >= 0 and chosen[at] == many - size + at:
        at -= 1
    if at < 0:
        return None
    return chosen[:at] + [chosen[at] + step for step in range(1, size - at + 1)]


def least_choice(many, holds):
    """Return the shortest ascending list of numbers below many that holds, of several the least, or None."""
    for size in range(many + 1):
        chosen = list(range(size))
        while chosen is not None:
            if holds(chosen):
                return chosen
            chosen = next_choice(chosen, many)
    return None
