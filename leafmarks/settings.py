"""Settings: the devices that there are, as a number or as a list of editions."""

from leafmarks.basics import is_number, is_row
from leafmarks.errors import BadSetting
from leafmarks.works import Edition

MOST_DEVICES = 3


def is_setting(x):
    """Tell whether any object is a setting."""
    if not is_row(x):
        return is_number(x) and 1 <= x <= MOST_DEVICES
    if not 1 <= len(x) <= MOST_DEVICES:
        return False
    if not all([isinstance(thing, Edition) for thing in x]):
        return False
    return all([edition.work == x[0].work for edition in x])


def require_setting(setting):
    """Refuse any object that is no setting."""
    if not is_setting(setting):
        raise BadSetting()


def floors_of(setting):
    """Return for each device the kernels of all cuts, or None if its edition stands at each cut."""
    if is_number(setting):
        return [None] * setting
    return [edition.kernels() for edition in setting]
