"""Histories: what stands behind their deeds, their faults, and their texts."""

from leafmarks.basics import is_row, lines_of
from leafmarks.deeds import KINDS, LEADING
from leafmarks.errors import BadDeed, BadText
from leafmarks.settings import MOST_DEVICES, require_setting
from leafmarks.spaces import FAULTS, Space, steps_of

DIGITS = "0123456789"


def played(rule, setting, history):
    """Return the list of what stands behind each deed, pairs (places, marks)."""
    require_setting(setting)
    space = Space([rule], setting, ())
    return [places_and_marks(space, state[0]) for state, faults_there in all_steps(space, history)]


def faults(rule, setting, history):
    """Return the list of the pairs (index, word) of all faults of a history."""
    require_setting(setting)
    steps = all_steps(Space([rule], setting, FAULTS), history)
    return [(index, word) for index, (state, words) in enumerate(steps) for word in words]


def all_steps(space, history):
    """Return what stands behind each deed of a history; refuse any object that is none."""
    if not is_row(history):
        raise BadDeed(0)
    steps = steps_of(space, history)
    if len(steps) < len(history):
        raise BadDeed(len(steps))
    return steps


def places_and_marks(space, values):
    """Return the tuple of the places, and the tuple of the marks, the shelf's last."""
    starts = [device * space.width for device in range(len(space.floors))]
    marks = [values[start + 1 : start + space.width] for start in starts]
    return tuple([values[start] for start in starts]), (*marks, values[space.shelf_at : space.tail])


def history_text(history):
    """Return a text with a line for each deed."""
    return "".join([line_of_deed(deed) for deed in history])


def read_history(text):
    """Return the history of a text."""
    history = []
    for number, line in enumerate(lines_of(text), start=1):
        deed = deed_of_line(line)
        if deed is None:
            raise BadText(number)
        history.append(deed)
    return history


def line_of_deed(deed):
    """Return the line of a deed."""
    return " ".join([str(part) for part in deed]) + "\n"


def deed_of_line(line):
    """Return the deed whose line this is, or None."""
    kind, *figures = line.rstrip("\n").split(" ")
    if kind not in KINDS or len(figures) != (2 if kind in LEADING else 1):
        return None
    if not all([is_figures(part) for part in figures]):
        return None
    deed = (kind, *[int(part) for part in figures])
    # Written again, what is no number as `str` writes it becomes another line.
    if deed[1] < MOST_DEVICES and line_of_deed(deed) == line:
        return deed
    return None


def is_figures(part):
    """Tell whether a text consists of one or more figures."""
    return part != "" and all([sign in DIGITS for sign in part])
